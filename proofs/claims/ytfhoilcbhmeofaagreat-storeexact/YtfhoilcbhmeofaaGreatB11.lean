/- lay: the list's bytes to free blocks, and the root with them. -/
import Derived.Test.YtfhoilcbhmeofaaGreatB10
set_option maxRecDepth 100000
set_option maxHeartbeats 16000000
namespace Go.Proofs.YtfhoilcbhmeofaaGreat
open Go.RowKit
section
def Tk(w:d9)(b:f7)(B:Nat)(e:Ending)(w':d9):Prop:=
 (m8 b B=none→e= .returned (.tuple #[.agg #[.int .u64 0,.slice none 0 0],.bool false]))∧
 (∀g t,m8 b B=some (g,t)→ ∃ao cap,e= .returned (.tuple #[.agg #[.int .u64 g,.slice ao t.length cap],.bool true])∧Tw w' (.slice ao t.length cap) t∧ ∀x,(Value.slice ao t.length cap).ownBlock=some x→w.heap.size≤x)∧
 f8 w w'
theorem qT{w w':d9}{b:f7}{B:Nat}(h:m8 b B=none)(hB:f8 w w'):Tk w b B (.returned (.tuple #[.agg #[.int .u64 0,.slice none 0 0],.bool false])) w':=
 ⟨fun _=>rfl,fun g t e=>(by rw[h]at e;cases e),hB⟩
theorem Gu{w w':d9}{b t:f7}{B g:Nat}{ao:Option Addr}{cap:Nat}(h:m8 b B=some (g,t))(hT:Tw w' (.slice ao t.length cap) t)(hn: ∀x,(Value.slice ao t.length cap).ownBlock=some x→w.heap.size≤x)(hB:f8 w w'):
  Tk w b B (.returned (.tuple #[.agg #[.int .u64 g,.slice ao t.length cap],.bool true])) w':=
 ⟨fun e=>(by rw[h]at e;cases e),fun g' t' e=>(by rw[h]at e;simp only[Option.some.injEq,Prod.mk.injEq]at e;obtain⟨rfl,rfl⟩:=e;exact⟨ao,cap,rfl,hT,hn⟩),hB⟩
structure Rc(w:d9)(wx:d9):Prop where
 below:f8 w wx
 z: ∀j,j<2→(∃u,wx.cell? ⟨w.heap.size,j,none⟩=some u)∧wx.frozen? ⟨w.heap.size,j,none⟩=false
 lt:w.heap.size<wx.heap.size
theorem Rc.go{w wx w':d9}(h:Rc w wx)(hb:f8 wx w'):Rc w w':=by
 refine⟨a9 h.below hb,fun j b=>?_,Nat.lt_of_lt_of_le h.lt hb.size⟩;obtain⟨⟨u,a⟩,c⟩:=h.z j b;exact⟨⟨u,by rw[hb.cell (p:=⟨w.heap.size,j,none⟩) (c8 a)];exact a⟩,by rw[hb.frozen (p:=⟨w.heap.size,j,none⟩) (c8 a)];exact c⟩
theorem Rc.two{w wx:d9}(h:Rc w wx)(a b:Value):f8 w ((wx.setCell ⟨w.heap.size,0,none⟩ a).setCell ⟨w.heap.size,1,none⟩ b):=
 (h.below.setCell (p:=⟨w.heap.size,0,none⟩) (by simp) _).setCell (p:=⟨w.heap.size,1,none⟩) (by simp) _
theorem Tw.ch{w w':d9}{ao:Option Addr}{n cap:Nat}{t:f7}(h:Tw w (.slice ao n cap) t)(hk: ∀x,(Value.slice ao n cap).ownBlock=some x→w'.heap[x]?=w.heap[x]?):Tw w' (.slice ao n cap) t:=by
 obtain⟨ao',cap',e,l,k,j,g⟩:=h;simp only[Value.slice.injEq]at e;obtain⟨p,o,m⟩:=e;subst p m;refine⟨ao,cap,by rw[o],l,k,j,fun i f=>?_⟩;obtain⟨b,d,rfl,c⟩:=g i f;exact⟨b,d,rfl,by rw[World.cell?_of_block (w:=w) (a:=⟨b,d+i,none⟩) (hk b rfl)];exact c⟩
theorem IW{w:d9}{v:Value}{b:f7}(h:Bv w v b)(hl:b.length≤1024){B:Nat}(hB:B≤64):
  Calls Tryz.prog 88 #[v,.int .i64 B] w fun e w'=>Tk w b B e w':=by
 obtain⟨w0,y⟩:=c7 (w.alloc (Obj.cells #[.int .u64 0,.slice none 0 0] 120));have s:=b9 y
 have l:c6 (Rc w w0):=by
  refine⟨by rw[y];exact a8 _ _,fun j hj=>?_,by rw[y];simp⟩;have d0:j=0∨j=1:=by omega
  rcases d0 with rfl|rfl<;>(rw[y];constructor<;>simp[go_sem])
 have HV:=b9 (h.below l.o.below);have HL:=b9 hl;have Z:=b9 hB;obtain⟨bo,bc,rfl,I,U⟩:=C9 h;have t0:(b.length:Int)≤1024:=by omega
 have v0:(b.length:Int)≤(bc:Int):=by omega
 have k0:=b9 I;obtain⟨⟨u0,N⟩,f0⟩:=l.o.z 0 (by omega);obtain⟨⟨u1,M⟩,f1⟩:=l.o.z 1 (by omega);rcases Wm.take_form b h.2 with ⟨er,G,W⟩|⟨g,p,O,F,b0,R,a0⟩
 ·have i0:=b9 G;have k:c6 (m8 b B=none):=nZ G W;clear h y hl hB I U G;rcases W with rfl|rfl
  all_goals
   go_in;go_wp2_with fail;rw[←s.o];refine(G9 HV.o).mono ?_;rintro e E ⟨m,a⟩;have a:=a.symm;subst a;rw[J2 i0.o]at m;subst m;go_wp2_with fail
   (try simp only[Exit.inBlock,Exit.then])
   refine bodyPost_ret (v:= .tuple #[.agg #[.int .u64 0,.slice none 0 0],.bool false]) (by rw[results_cell_tmp rfl];go_simp) rfl ?_;exact qT k.o (l.o.two _ _)
 ·have HT:=b9 O;have HP:=b9 R;have p0:(p:Int)≤(b.length:Int):=by omega
  have j0:=b9 h.2;clear h y hl hB I U O a0 F b0 R;by_cases T:(g:Int)<1
  ·have k:c6 (m8 b B=none):=gQ HT.o (.inl (by omega));go_in;go_wp2_with fail;rw[←s.o];refine(G9 HV.o).mono ?_;rintro e E ⟨m,a⟩;have a:=a.symm;subst a;rw[J2 HT.o]at m;subst m;go_wp2_with fail
   (try simp only[Exit.inBlock,Exit.then])
   refine bodyPost_ret (v:= .tuple #[.agg #[.int .u64 0,.slice none 0 0],.bool false]) (by rw[results_cell_tmp rfl];go_simp) rfl ?_;exact qT k.o (l.o.two _ _)
  ·have n0:1≤(g:Int):=by omega
   have m0:=decide_eq_false T;clear T;by_cases S:(1099511627776:Int)<(g:Int)
   ·have k:c6 (m8 b B=none):=gQ HT.o (.inr (by omega));go_in;go_wp2_with fail;rw[←s.o];refine(G9 HV.o).mono ?_;rintro e E ⟨m,a⟩;have a:=a.symm;subst a;rw[J2 HT.o]at m;subst m;go_wp2_with fail
    (try simp only[Exit.inBlock,Exit.then])
    refine bodyPost_ret (v:= .tuple #[.agg #[.int .u64 0,.slice none 0 0],.bool false]) (by rw[results_cell_tmp rfl];go_simp) rfl ?_;exact qT k.o (l.o.two _ _)
   ·have HG:c6 (1≤g∧g≤1099511627776):=⟨by omega,by omega⟩;have l0:=decide_eq_false S;clear S;obtain⟨t,n,er,P⟩: ∃t n er,Wm.takeNums (b.drop p) 8=(t,n,er):=⟨_,_,_,rfl⟩;have HN:=b9 P;have A:c6 ((b.drop p).length*8≤140737488355328):=by show _≤_;rw[List.length_drop];have:=HL.o;omega
    clear P N M f0 f1;by_cases q:bc=p
    ·have L:c6 (b.length≤p):=by show _≤_;have:=k0.o;omega
     have Y:=b9 q
     have h3:er=3:=by
      have hh:=HN.o;rw[List.drop_eq_nil_of_le L.o]at hh;have:Wm.takeNums [] 8=([],0,3):=rfl;rw[this]at hh;simp only[Prod.mk.injEq]at hh;exact hh.2.2.symm
     subst h3;have k:c6 (m8 b B=none):=dO HT.o HN.o (by omega);clear q;go_in;go_wp2_with fail;rw[←s.o];refine(G9 HV.o).mono ?_;rintro e E ⟨m,a⟩;have a:=a.symm;subst a;rw[J2 HT.o]at m;subst m;have q:=Y.o;have s0:b.length=p:=by have:=L.o;omega
     clear Y;subst q;go_wp2_with fail;refine(T1 8 (Bv.cutEnd (ao:=bo) L.o) A.o (by omega)).mono ?_;rw[HN.o];rintro e C ⟨ao,r,rfl,u,i,f⟩;simp only at u f⊢;have d:c6 (Rc w C):=l.o.go i;obtain⟨⟨u0,N⟩,f0⟩:=d.o.z 0 (by omega);obtain⟨⟨u1,M⟩,f1⟩:=d.o.z 1 (by omega);clear u f i;go_wp2_with fail
     (try simp only[Exit.inBlock,Exit.then])
     refine bodyPost_ret (v:= .tuple #[.agg #[.int .u64 0,.slice none 0 0],.bool false]) (by rw[results_cell_tmp rfl];go_simp) rfl ?_;exact qT k.o (d.o.two _ _)
    ·by_cases H:er=0
     ·subst H;have K:=b9 (rT (fun c hc=>j0.o c (List.mem_of_mem_drop hc)) HN.o);have o0:(p:Int)+(n:Int)≤(b.length:Int):=by have h1:=K.o.1;rw[List.length_drop]at h1;omega
      by_cases D:p+n=b.length
      ·have c0:((p:Int)+(n:Int) !=(b.length:Int))=false:=by simp;omega
       have h0:=b9 D;clear D
       cases htb:aQ t B
       ·have J:=b9 htb;have k:=b9 (bM HT.o HN.o htb);clear htb;go_in;go_wp2_with fail;rw[←s.o];refine(G9 HV.o).mono ?_;rintro e E ⟨m,a⟩;have a:=a.symm;subst a;rw[J2 HT.o]at m;subst m;go_wp2_with fail;refine(T1 8 (HV.o.cutFrom p HP.o q) A.o (by omega)).mono ?_;rw[HN.o];rintro e C ⟨ao,r,rfl,u,i,f⟩;simp only[i8]at u f⊢;have HS:c6 (Tw C (.slice ao t.length r) t):=u;have d:c6 (Rc w C):=l.o.go i;obtain⟨⟨u0,N⟩,f0⟩:=d.o.z 0 (by omega);obtain⟨⟨u1,M⟩,f1⟩:=d.o.z 1 (by omega);clear u f i;go_wp2_with fail;refine(IC HS.o (by have:=K.o.2;omega) Z.o).mono ?_;rw[J.o];rintro e w3 ⟨rfl,a⟩;have a:=a.symm;subst a;go_wp2_with fail
        (try simp only[Exit.inBlock,Exit.then])
        refine bodyPost_ret (v:= .tuple #[.agg #[.int .u64 0,.slice none 0 0],.bool false]) (by rw[results_cell_tmp rfl];go_simp) rfl ?_;exact qT k.o (d.o.two _ _)
       ·have J:=b9 htb;have g0:c6 (m8 b B=some (g,t)):=iQ HT.o HG.o.1 HG.o.2 HN.o h0.o htb;clear htb;go_in;go_wp2_with fail;rw[←s.o];refine(G9 HV.o).mono ?_;rintro e E ⟨m,a⟩;have a:=a.symm;subst a;rw[J2 HT.o]at m;subst m;go_wp2_with fail;refine(T1 8 (HV.o.cutFrom p HP.o q) A.o (by omega)).mono ?_;rw[HN.o];rintro e C ⟨ao,r,rfl,u,i,f⟩;simp only[i8]at u f⊢;have HS:c6 (Tw C (.slice ao t.length r) t):=u;have X:c6 (∀x,(Value.slice ao t.length r).ownBlock=some x→w.heap.size<x):=fun x F=>Nat.lt_of_lt_of_le l.o.lt (f x F);have d:c6 (Rc w C):=l.o.go i;obtain⟨⟨u0,N⟩,f0⟩:=d.o.z 0 (by omega);obtain⟨⟨u1,M⟩,f1⟩:=d.o.z 1 (by omega);clear u f i;go_wp2_with fail;refine(IC HS.o (by have:=K.o.2;omega) Z.o).mono ?_;rw[J.o];rintro e w3 ⟨rfl,a⟩;have a:=a.symm;subst a;go_wp2_with fail
        (try simp only[Exit.inBlock,Exit.then])
        refine bodyPost_ret (v:= .tuple #[.agg #[.int .u64 g,.slice ao t.length r],.bool true]) (by rw[results_cell_tmp rfl];go_simp) rfl ?_;refine Gu g0.o (HS.o.ch (fun x F=>?_)) (fun x F=>Nat.le_of_lt (X.o x F)) (d.o.two _ _);have Q:x≠w.heap.size:=by have:=X.o x F;omega
        rw[l8 1 _ Q,l8 0 _ Q]
      ·have c0:((p:Int)+(n:Int) !=(b.length:Int))=true:=by simp;omega
       have k:c6 (m8 b B=none):=rH HT.o HN.o D;clear D;go_in;go_wp2_with fail;rw[←s.o];refine(G9 HV.o).mono ?_;rintro e E ⟨m,a⟩;have a:=a.symm;subst a;rw[J2 HT.o]at m;subst m;go_wp2_with fail;refine(T1 8 (HV.o.cutFrom p HP.o q) A.o (by omega)).mono ?_;rw[HN.o];rintro e C ⟨ao,r,rfl,u,i,f⟩;simp only[i8]at u f⊢;have d:=b9 (l.o.go i);obtain⟨⟨u0,N⟩,f0⟩:=d.o.z 0 (by omega);obtain⟨⟨u1,M⟩,f1⟩:=d.o.z 1 (by omega);clear u f i;go_wp2_with fail
       (try simp only[Exit.inBlock,Exit.then])
       refine bodyPost_ret (v:= .tuple #[.agg #[.int .u64 0,.slice none 0 0],.bool false]) (by rw[results_cell_tmp rfl];go_simp) rfl ?_;exact qT k.o (d.o.two _ _)
     ·have r0:((er:Int) !=0)=true:=by simp;omega
      have q0: ¬(er:Int)=0:=by omega
      have k:c6 (m8 b B=none):=dO HT.o HN.o H;clear H;go_in;go_wp2_with fail;rw[←s.o];refine(G9 HV.o).mono ?_;rintro e E ⟨m,a⟩;have a:=a.symm;subst a;rw[J2 HT.o]at m;subst m;go_wp2_with fail;refine(T1 8 (HV.o.cutFrom p HP.o q) A.o (by omega)).mono ?_;rw[HN.o];rintro e C ⟨ao,r,rfl,u,i,f⟩;simp only[i8]at u f⊢;have d:=b9 (l.o.go i);obtain⟨⟨u0,N⟩,f0⟩:=d.o.z 0 (by omega);obtain⟨⟨u1,M⟩,f1⟩:=d.o.z 1 (by omega);clear u f i;go_wp2_with fail
      (try simp only[Exit.inBlock,Exit.then])
      refine bodyPost_ret (v:= .tuple #[.agg #[.int .u64 0,.slice none 0 0],.bool false]) (by rw[results_cell_tmp rfl];go_simp) rfl ?_;exact qT k.o (d.o.two _ _)
section

variable{T:TypeId}{D:n9}{w:d9}{v bv:Value}{S:Dk}{b:f7}

def Wl(T:TypeId)(D:n9)(w:d9)(v:Value)(S:Dk)(w':d9):Prop:=(∃D':n9,I9 T D' w' v S∧ ∀x,D' x→D x∨w.heap.size≤x)∧Ch D w w'
theorem MR(h:I9 89 D w v S)(i:Int)(hb:Bv w bv b)(hwr:S.wr<9223372036854775807)(hI:l7 S i b=0):
  Calls Tryz.prog 79 #[v,.int .i64 i,bv] w fun e w'=>e= .returned (.tuple #[])∧Wl 89 D w v (i7 S i b) w':=by
 have HD:=b9 h;have HB:=b9 hb;have HW:=b9 hwr;have HI:=b9 hI;clear h hb hwr hI;go_in;go_wp2_with fail;refine(qN HD.o i HB.o HW.o).mono ?_;rintro e d ⟨rfl,a,c⟩;rw[HI.o];go_wp2_with fail;refine bodyPost_end (results_none rfl _ _ _) rfl ?_;exact⟨rfl,a,c⟩
theorem wW(h:I9 89 D w v S)(i:Int)(hb:Bv w bv b)(hwr:S.wr<9223372036854775807)(hI:l7 S i b≠0):
  Calls Tryz.prog 79 #[v,.int .i64 i,bv] w fun e w'=>(∃u pv,e= .panicked [{v:= .iface u pv,recovered:=false}])∧Wl 89 D w v (i7 S i b) w':=by
 have HD:=b9 h;have HB:=b9 hb;have HW:=b9 hwr;obtain⟨q,a⟩:=c7 (l7 S i b);have HI:=b9 a;rw[←a]at hI;have f:(q !=0)=true:=by simpa using hI
 clear h hb hwr a;go_in;go_wp2_with fail;refine(qN HD.o i HB.o HW.o).mono ?_;rintro e g ⟨rfl,c,d⟩;rw[←HI.o];go_wp2_with fail;exact⟨rfl,⟨_,_,rfl⟩,c,d⟩
end
end
section
structure Bo where
 gen:Nat
 tab:f7
 home:Nat
 over:Bool
structure Bo.ok(P:Bo)(B:Nat):Prop where
 g1:1≤P.gen
 g40:P.gen≤1099511627776
 n8:P.tab.length≤8
 tok:II P.tab B
 h2:P.home≤1
def ES(tv dv:Value)(P:Bo):Array Value:= #[.int .u64 P.gen,tv,dv,.int .i64 P.home,.bool P.over]
def UG(tv dv:Value)(P:Bo):Array Value:= #[dv,tv,.int .i64 P.gen,.int .i64 P.home,.bool P.over]
structure BM(F:Value→Value→Bo→Array Value)(TB TD:TypeId)(A D:n9)(w:d9)(pb:Nat)(tv dv:Value)(P:Bo)(S:Dk):Prop where
 head:w.heap[pb]?=some (.cells (F tv dv P) TB (0,0))
 tab:Tw w tv P.tab
 dsk:I9 TD D w dv S
 sub: ∀x,D x→A x
 ab:A pb
 nb: ¬D pb
 at': ∀x,tv.ownBlock=some x→A x∧ ¬D x∧x≠pb
 al: ∀x,A x→x<w.heap.size
 ok:P.ok S.bl.length
def Bk(F:Value→Value→Bo→Array Value)(TB TD:TypeId)(A:n9)(w:d9)(v dv:Value)(P:Bo)(S:Dk):Prop:= ∃D pb tv,v= .pointer (some ⟨pb,0,none⟩)∧BM F TB TD A D w pb tv dv P S
section

variable{F:Value→Value→Bo→Array Value}{TB TD:TypeId}{A A' D:n9}{w w':d9}{v dv tv:Value}{P P':Bo}{S S':Dk}{pb:Nat}

theorem Tw.keep{t:f7}(h:Tw w tv t)(hk: ∀x,tv.ownBlock=some x→w'.heap[x]?=w.heap[x]?):Tw w' tv t:=by
 obtain⟨d,a,rfl,c,b⟩:=h.form;exact h.ch hk
theorem BM.keep(h:BM F TB TD A D w pb tv dv P S)(hk: ∀x,A x→w'.heap[x]?=w.heap[x]?)(hs:w.heap.size≤w'.heap.size):BM F TB TD A D w' pb tv dv P S:=
 ⟨by rw[hk _ h.ab];exact h.head,h.tab.keep (fun x hx=>hk x (h.at' x hx).1),h.dsk.keep (fun x hx=>hk x (h.sub x hx)) hs,h.sub,h.ab,h.nb,h.at',fun x hx=>Nat.lt_of_lt_of_le (h.al x hx) hs,h.ok⟩
theorem BM.below(h:BM F TB TD A D w pb tv dv P S)(hb:f8 w w'):BM F TB TD A D w' pb tv dv P S:=h.keep (fun x hx=>hb.block x (h.al x hx)) hb.size
theorem Bk.lt(h:Bk F TB TD A w v dv P S){x:Nat}(hx:A x):x<w.heap.size:=by
 obtain⟨D,b,a,e,h⟩:=h;exact h.al x hx
theorem Bk.good(h:Bk F TB TD A w v dv P S):P.ok S.bl.length:=by
 obtain⟨D,b,a,e,h⟩:=h;exact h.ok
theorem Bk.keep(h:Bk F TB TD A w v dv P S)(hk: ∀x,A x→w'.heap[x]?=w.heap[x]?)(hs:w.heap.size≤w'.heap.size):Bk F TB TD A w' v dv P S:=by
 obtain⟨D,b,a,e,h⟩:=h;exact⟨D,b,a,e,h.keep hk hs⟩
theorem Bk.below(h:Bk F TB TD A w v dv P S)(hb:f8 w w'):Bk F TB TD A w' v dv P S:=h.keep (fun x hx=>hb.block x (h.lt hx)) hb.size
theorem Bk.ch{E:n9}(h:Bk F TB TD A w v dv P S)(hc:Ch E w w')(hE: ∀x,A x→ ¬E x):Bk F TB TD A w' v dv P S:=h.keep (fun x hx=>hc.block x (h.lt hx) (hE x hx)) hc.size
theorem BM.redisk{D':n9}(h:BM F TB TD A D w pb tv dv P S)(hd:I9 TD D' w' dv S')(hx: ∀x,D' x→D x∨w.heap.size≤x)(hc:Ch D w w')(hb:S'.bl.length=S.bl.length):BM F TB TD (fun x=>A x∨D' x) D' w' pb tv dv P S':=by
 have b:=h.al pb h.ab;refine⟨by rw[hc.block pb b h.nb];exact h.head,h.tab.keep (fun x hx=>hc.block x (h.al x (h.at' x hx).1) (h.at' x hx).2.1),hd,fun x hx=> .inr hx,.inl h.ab,fun e=>?_,fun x a=>⟨.inl (h.at' x a).1,fun e=>?_,(h.at' x a).2.2⟩,fun x a=>?_,by rw[hb];exact h.ok⟩
 ·rcases hx pb e with q|q
  ·exact h.nb q
  ·omega
 ·rcases hx x e with q|q
  ·exact(h.at' x a).2.1 q
  ·have:=h.al x (h.at' x a).1;omega
 ·rcases a with q|q
  ·exact Nat.lt_of_lt_of_le (h.al x q) hc.size
  ·exact hd.lt q
theorem BM.mono(h:BM F TB TD A D w pb tv dv P S)(ha: ∀x,A x→A' x)(hl: ∀x,A' x→x<w.heap.size):BM F TB TD A' D w pb tv dv P S:=
 ⟨h.head,h.tab,h.dsk,fun x hx=>ha x (h.sub x hx),ha _ h.ab,h.nb,fun x hx=>⟨ha x (h.at' x hx).1,(h.at' x hx).2⟩,hl,h.ok⟩
theorem BM.chA(h:BM F TB TD A D w pb tv dv P S)(hc:Ch D w w'):Ch A w w':=⟨hc.os,hc.tape,hc.output,hc.size,fun k hk hn=>hc.block k hk (fun e=>hn (h.sub k e))⟩
theorem Bk.disk(h:Bk F TB TD A w v dv P S): ∃D,I9 TD D w dv S∧(∀x,D x→A x)∧ ∀D' w' S',I9 TD D' w' dv S'→(∀x,D' x→D x∨w.heap.size≤x)→Ch D w w'→S'.bl.length=S.bl.length→Bk F TB TD (fun x=>A x∨D' x) w' v dv P S':=by
 obtain⟨D,b,a,e,h⟩:=h;exact⟨D,h.dsk,h.sub,fun D' w' S' hd c d f=>⟨D',b,a,e,h.redisk hd c d f⟩⟩
theorem BM.cell(h:BM F TB TD A D w pb tv dv P S)(i:Nat):w.cell? ⟨pb,i,none⟩=(F tv dv P)[i]?:=cell_of_row w pb i _ _ (0,0) h.head
theorem BM.soft(h:BM F TB TD A D w pb tv dv P S)(i:Nat):w.frozen? ⟨pb,i,none⟩=false:=by simp[World.frozen?,h.head]
theorem BM.put(h:BM F TB TD A D w pb tv dv P S)(i:Nat)(u:Value)(hc:(F tv dv P).setIfInBounds i u=F tv dv P')(ho:P'.tab=P.tab)(hk:P'.ok S.bl.length):BM F TB TD A D (w.setCell ⟨pb,i,none⟩ u) pb tv dv P' S:=by
 refine⟨by rw[V5 h.head,hc],?_,?_,h.sub,h.ab,h.nb,h.at',fun x a=>by have:=h.al x a;simpa[go_sem]using this,hk⟩
 ·rw[ho];exact h.tab.keep (fun x a=>l8 i u (h.at' x a).2.2)
 ·exact h.dsk.keep (fun x a=>l8 i u (fun e=>h.nb (e▸a))) (by simp)
theorem BM.chput(h:BM F TB TD A D w pb tv dv P S)(i:Nat)(u:Value):Ch A w (w.setCell ⟨pb,i,none⟩ u):=Ch.of_grown (A7 w pb i u) (fun x hx=>by cases hx;exact h.ab)
end

abbrev BP:=Bk ES 124 89
abbrev BQ:=Bk UG 139 91
abbrev MP:=BM ES 124 89
abbrev MQ:=BM UG 139 91
section

variable{A D:n9}{w w':d9}{v dv tv:Value}{P P':Bo}{S S':Dk}{pb:Nat}

theorem Fo(h:MP A D w pb tv dv P S):w.cell? ⟨pb,0,none⟩=some (.int .u64 P.gen):=by rw[h.cell];rfl
theorem Hy(h:MP A D w pb tv dv P S):w.cell? ⟨pb,1,none⟩=some tv:=by rw[h.cell];rfl
theorem Kr(h:MP A D w pb tv dv P S):w.cell? ⟨pb,2,none⟩=some dv:=by rw[h.cell];rfl
theorem Na(h:MP A D w pb tv dv P S):w.cell? ⟨pb,3,none⟩=some (.int .i64 P.home):=by rw[h.cell];rfl
theorem Jy(h:MP A D w pb tv dv P S):w.cell? ⟨pb,4,none⟩=some (.bool P.over):=by rw[h.cell];rfl
theorem Jx(h:MQ A D w pb tv dv P S):w.cell? ⟨pb,0,none⟩=some dv:=by rw[h.cell];rfl
theorem Hx(h:MQ A D w pb tv dv P S):w.cell? ⟨pb,1,none⟩=some tv:=by rw[h.cell];rfl
theorem Mn(h:MQ A D w pb tv dv P S):w.cell? ⟨pb,2,none⟩=some (.int .i64 P.gen):=by rw[h.cell];rfl
theorem mq3(h:MQ A D w pb tv dv P S):w.cell? ⟨pb,3,none⟩=some (.int .i64 P.home):=by rw[h.cell];rfl
theorem Fl(h:MQ A D w pb tv dv P S):w.cell? ⟨pb,4,none⟩=some (.bool P.over):=by rw[h.cell];rfl
def J6(P:Bo):Bo:={P with over:=true}
theorem XE{B:Nat}(h:P.ok B):(J6 P).ok B:=⟨h.g1,h.g40,h.n8,h.tok,h.h2⟩
theorem XP(h:MP A D w pb tv dv P S):MP A D (w.setCell ⟨pb,4,none⟩ (.bool true)) pb tv dv (J6 P) S:=h.put 4 _ rfl rfl (XE h.ok)
theorem rX(h:MQ A D w pb tv dv P S):MQ A D (w.setCell ⟨pb,4,none⟩ (.bool true)) pb tv dv (J6 P) S:=h.put 4 _ rfl rfl (XE h.ok)
def i6(P:Bo)(S:Dk):Bool:=P.over||S.down
theorem O0(h:MP A D w pb tv dv P S)(hs:i6 P S=false):Calls Tryz.prog 81 #[.pointer (some ⟨pb,0,none⟩)] w fun e w'=>e= .returned (.int .i64 0)∧w'=w:=by
 have HD:=b9 h.dsk;have g:=Kr h;have d:=Jy h;have a:=hs;unfold i6 at a;rw[Bool.or_eq_false_iff]at a;rw[a.1]at d;have c:=b9 a.2;clear h hs a;go_in;go_wp2_with fail;refine(jB HD.o).mono ?_;rintro e f ⟨rfl,b⟩;have b:=b.symm;subst b;rw[c.o];go_wp2_with fail;go_ret;exact⟨rfl,rfl⟩
theorem jN(h:MP A D w pb tv dv P S)(hs:i6 P S=true):Calls Tryz.prog 81 #[.pointer (some ⟨pb,0,none⟩)] w fun e w'=>e= .returned (.int .i64 80)∧MP A D w' pb tv dv (J6 P) S∧Ch A w w':=by
 have HD:=b9 h.dsk;have HE:=b9 (XP h);have HC:c6 (Ch A w (w.setCell ⟨pb,4,none⟩ (.bool true))):=h.chput _ _;have f:=Kr h;have c:=Jy h;have f4:=h.soft 4
 cases ho:P.over
 ·rw[ho]at c;have b:c6 (S.down=true):=by unfold i6 at hs;rw[ho,Bool.false_or]at hs;exact hs
  clear h hs ho;go_in;go_wp2_with fail;refine(jB HD.o).mono ?_;rintro e d ⟨rfl,a⟩;have a:=a.symm;subst a;rw[b.o];go_wp2_with fail;go_ret;exact⟨rfl,HE.o,HC.o⟩
 ·rw[ho]at c;clear h hs ho;go_in;go_wp2_with fail;go_ret;exact⟨rfl,HE.o,HC.o⟩
def Z9(t:f7):Nat:=(t.filter (fun x=>x !=0)).length
theorem iN{t:f7}{k:Nat}(h:k<t.length):Z9 (t.take (k+1))=Z9 (t.take k)+(if tn t k=0 then 0 else 1):=by
 unfold Z9;rw[List.take_succ_eq_append_getElem h,List.filter_append,List.length_append,aA h];by_cases e:t[k]=0
 ·rw[if_pos e];simp[e]
 ·rw[if_neg e];simp[e]
theorem MW(t:f7):Z9 t≤t.length:=List.length_filter_le _ _
theorem rS(h:BP A w v dv P S):Calls Tryz.prog 40 #[v] w fun e w'=>e= .returned (.int .i64 P.tab.length)∧w'=w:=by
 obtain⟨D,f,d,rfl,h⟩:=h;have g:=Hy h;obtain⟨i,c,rfl,b,a⟩:=h.tab.form;clear h b a;go_in;go_wp2_with fail;go_ret;exact⟨rfl,rfl⟩
theorem LQ(h:BP A w v dv P S):Calls Tryz.prog 74 #[v] w fun e w'=>e= .returned (.bool P.over)∧w'=w:=by
 obtain⟨D,b,a,rfl,h⟩:=h;have c:=Jy h;clear h;go_in;go_wp2_with fail;go_ret;exact⟨rfl,rfl⟩
theorem PY(h:BP A w v dv P S):Calls Tryz.prog 73 #[v] w fun e w'=>e= .returned (.int .i64 (Z9 P.tab))∧w'=w:=by
 obtain⟨D,C,B,rfl,h⟩:=h;have F:=Hy h;have HT:=b9 h.tab;obtain⟨t,i⟩:=c7 P.tab;have n:=h.ok.n8;rw[←i]at HT n⊢;obtain⟨G,z,rfl,r,p⟩:=HT.o.form;have x:(t.length:Int)≤8:=by omega
 clear h r p i;go_in;go_wp2_with fail;go_loop [3,14] (fun uv iv=> ∃k:Nat,k≤t.length∧iv= .int .i64 k∧uv= .int .i64 (Z9 (t.take k))) (fun _ iv=>t.length-(intOf iv).toNat)
 case atStart=>exact⟨0,Nat.zero_le _,rfl,rfl⟩
 case round=>
  obtain⟨k,E,rfl,rfl⟩:=hrel;by_cases a:k<t.length
  ·obtain⟨b,s,rfl,m⟩:=HT.o.at a;have HU:=b9 (iN a);obtain⟨y,g⟩:=c7 (tn t k);rw[←g]at m HU;have f:Z9 (t.take k)≤8:=Nat.le_trans (MW _) (by rw[List.length_take];omega);obtain⟨q,j⟩:=c7 (Z9 (t.take k));rw[←j]at HU f⊢;clear g j;by_cases d:y=0
   ·rw[if_pos d]at HU;subst d;go_wp2_with fail;go_round
    case rel=>exact⟨k+1,a,by simp,by rw[HU.o];rfl⟩
    case measure=>simp[intOf];omega
   ·rw[if_neg d]at HU;have u:((y:Int) !=0)=true:=by simp;omega
    clear d;go_wp2_with fail;go_round
    case rel=>exact⟨k+1,a,by simp,by rw[HU.o];simp⟩
    case measure=>simp[intOf];omega
  ·have c:t.take k=t:=List.take_of_length_le (by omega);have HK:c6 (t.take k=t):=c;have l: ¬(k:Int)<(t.length:Int):=by omega
   clear c;go_wp2_with fail;go_ret;exact⟨by rw[HK.o];rfl,rfl⟩
end
end
section
def uA(P:Bo)(S:Dk)(p:Int):Int:=if i6 P S=true then 80 else if fV P.tab.length p=false then 91 else if tn P.tab p.toNat=0 then 0 else I2 S (tn P.tab p.toNat)
def A0(P:Bo)(S:Dk)(p:Int):f7:=if i6 P S=true then []else if fV P.tab.length p=false then []else if tn P.tab p.toNat=0 then []else M6 S (tn P.tab p.toNat)
def aF(P:Bo)(S:Dk)(p:Int):Dk:=if i6 P S=true then S else if fV P.tab.length p=false then S else if tn P.tab p.toNat=0 then S else R8 S (tn P.tab p.toNat)
def fW(P:Bo)(S:Dk):Bo:=if i6 P S=true then J6 P else P
theorem LH{n:Nat}{p:Int}(h:fV n p=true):0≤p∧p<(n:Int):=of_decide_eq_true h
theorem CK{S:Dk}{i:Int}:(R8 S i).bl.length=S.bl.length:=by unfold R8;split<;>rfl
theorem Az{S:Dk}{i:Int}:(R8 S i).bl=S.bl:=by unfold R8;split<;>rfl
section

variable{F:Value→Value→Bo→Array Value}{TB TD:TypeId}{A D:n9}{w w':d9}{v dv tv:Value}{P P':Bo}{S S':Dk}{pb:Nat}

def Gt(F:Value→Value→Bo→Array Value)(TB TD:TypeId)(A:n9)(w:d9)(v dv:Value)(P:Bo)(S:Dk)(p:Int)(e:Ending)(w':d9):Prop:=
 ∃r,e= .returned (.tuple #[r,.int .i64 (uA P S p)])∧w'.ownsRow w.heap.size 5 1 r (A0 P S p).length (cb (A0 P S p))∧Bk F TB TD A w' v dv (fW P S) (aF P S p)∧Ch A w w'
theorem OL{p:Int}(hs:i6 P S=true)(h:BM F TB TD A D w' pb tv dv (J6 P) S)(hc:Ch A w w'):Gt F TB TD A w (.pointer (some ⟨pb,0,none⟩)) dv P S p (.returned (.tuple #[.slice none 0 0,.int .i64 80])) w':=by
 refine⟨_,by unfold uA;rw[if_pos hs],?_,?_,hc⟩
 ·unfold A0;rw[if_pos hs];exact World.ownsRow_nil _ _ _ _
 ·unfold aF fW;rw[if_pos hs,if_pos hs];exact⟨D,pb,tv,rfl,h⟩
theorem zK{p:Int}(hs:i6 P S=false)(hp:fV P.tab.length p=false)(h:BM F TB TD A D w' pb tv dv P S)(hc:Ch A w w'):Gt F TB TD A w (.pointer (some ⟨pb,0,none⟩)) dv P S p (.returned (.tuple #[.slice none 0 0,.int .i64 91])) w':=by
 have a: ¬i6 P S=true:=by rw[hs];simp
 refine⟨_,by unfold uA;rw[if_neg a,if_pos hp],?_,?_,hc⟩
 ·unfold A0;rw[if_neg a,if_pos hp];exact World.ownsRow_nil _ _ _ _
 ·unfold aF fW;rw[if_neg a,if_neg a,if_pos hp];exact⟨D,pb,tv,rfl,h⟩
theorem ON{p:Int}(hs:i6 P S=false)(hp:fV P.tab.length p=true)(h0:tn P.tab p.toNat=0)(h:BM F TB TD A D w' pb tv dv P S)(hc:Ch A w w'):Gt F TB TD A w (.pointer (some ⟨pb,0,none⟩)) dv P S p (.returned (.tuple #[.slice none 0 0,.int .i64 0])) w':=by
 have a: ¬i6 P S=true:=by rw[hs];simp
 have b: ¬fV P.tab.length p=false:=by rw[hp];simp
 refine⟨_,by unfold uA;rw[if_neg a,if_neg b,if_pos h0],?_,?_,hc⟩
 ·unfold A0;rw[if_neg a,if_neg b,if_pos h0];exact World.ownsRow_nil _ _ _ _
 ·unfold aF fW;rw[if_neg a,if_neg a,if_neg b,if_pos h0];exact⟨D,pb,tv,rfl,h⟩
theorem BM.reread(h:BM F TB TD A D w pb tv dv P S)(hd:I9 TD D w' dv S')(hc:Ch D w w')(hb:S'.bl.length=S.bl.length):BM F TB TD A D w' pb tv dv P S':=
 (h.redisk hd (fun _ hx=> .inl hx) hc hb).mono (A':=A) (fun x hx=>by rcases hx with q|q;exact q;exact h.sub x q) (fun x hx=>Nat.lt_of_lt_of_le (h.al x hx) hc.size)
theorem OM{p:Int}{k:Nat}{w1:d9}{r:Value}(hs:i6 P S=false)(hp:fV P.tab.length p=true)(hk:k=tn P.tab p.toNat)(h0:k≠0)(h:BM F TB TD A D w1 pb tv dv P S)(hB:f8 w w1)
  (ho:w'.ownsRow w1.heap.size 5 1 r (M6 S k).length (cb (M6 S k))) (hd:I9 TD D w' dv (R8 S k)) (hc:Ch D w1 w'):Gt F TB TD A w (.pointer (some ⟨pb,0,none⟩)) dv P S p (.returned (.tuple #[r,.int .i64 (I2 S k)])) w':=by
 have a: ¬i6 P S=true:=by rw[hs];simp
 have b: ¬fV P.tab.length p=false:=by rw[hp];simp
 subst hk;refine⟨_,by unfold uA;rw[if_neg a,if_neg b,if_neg h0],?_,?_,?_⟩
 ·unfold A0;rw[if_neg a,if_neg b,if_neg h0];exact bU ho hB.size
 ·unfold aF fW;rw[if_neg a,if_neg a,if_neg b,if_neg h0];exact⟨D,pb,tv,rfl,h.reread hd hc CK⟩
 ·exact(Ch.of_below (D:=A) hB).trans (h.chA hc) (fun _ c=> .inl c)
end

section

variable{A D:n9}{w w':d9}{v dv tv:Value}{P P':Bo}{S S':Dk}{pb:Nat}

theorem YG(h:BP A w v dv P S)(p:Int)(hrd:S.rd<9223372036854775807):Calls Tryz.prog 142 #[v,.int .i64 p] w fun e w'=>Gt ES 124 89 A w v dv P S p e w':=by
 obtain⟨D,j,tv,rfl,h⟩:=h;have HM:=b9 h;have a0:=b9 hrd
 cases hs:i6 P S
 ·have HS:=b9 hs;have c0:=Fo h;have M:=Hy h;have HT:=b9 h.tab
  cases C:fV P.tab.length p
  ·have HP:=b9 C;clear h hs C hrd;go_in;go_wp2_with fail;refine(O0 HM.o HS.o).mono ?_;rintro e w9 ⟨rfl,k⟩;have k:=k.symm;subst k;go_wp2_with fail;refine(cB P.gen HT.o p).mono ?_;rw[HP.o];rintro e f ⟨rfl,c⟩;have g:=b9 c;clear c;go_wp2_with fail;go_ret2;exact zK HS.o HP.o (HM.o.below g.o) (Ch.of_below g.o)
  ·have HP:=b9 C;obtain⟨Q,O⟩:=LH C;obtain⟨n,rfl⟩: ∃n:Nat,p=n:=⟨p.toNat,by omega⟩;obtain⟨ao,s,rfl,T,R⟩:=h.tab.form;obtain⟨b,d,rfl,E⟩:=h.tab.at (i:=n) (by omega);obtain⟨t,B⟩:=c7 P.tab;rw[←B]at M E O HP;rw[←B]at HT;have q:=b9 B;obtain⟨y,K⟩:=c7 (tn t n);rw[←K]at E;have HY:=b9 K;have f0:(n:Int)<(t.length:Int):=by omega
   have I:=(h.at' b (by simp[Value.ownBlock])).2.1;have G:=h.nb;have H:=c8 E;have F:=h.al j h.ab;have c2:=Kr h;have HD:=b9 h.dsk;have m:c6 (j<w.heap.size∧b<w.heap.size):=⟨F,H⟩;have x:c6 (¬D j∧ ¬D b):=⟨G,I⟩;have h8:t.length≤8:=by rw[B];exact h.ok.n8
   have d0:(t.length:Int)≤8:=by omega
   clear h hs C Q T R B K I G H F hrd h8;by_cases l:y=0
   ·have u:=b9 l;have N:((y:Int)==0)=true:=by simp[l]
    clear l;go_in;go_wp2_with fail;refine(O0 HM.o HS.o).mono ?_;rintro e w9 ⟨rfl,k⟩;have k:=k.symm;subst k;go_wp2_with fail;refine(cB P.gen HT.o n).mono ?_;rw[HP.o];rintro e f ⟨rfl,c⟩;have g:=b9 c;have J:f.cell? ⟨j,1,none⟩=some (.slice (some ⟨b,d,none⟩) t.length s):=by rw[c.cell (p:=⟨j,1,none⟩) m.o.1];exact M
    have L:f.cell? ⟨b,d+n,none⟩=some (.int .i64 y):=by rw[c.cell (p:=⟨b,d+n,none⟩) m.o.2];exact E
    clear c;go_wp2_with fail;go_ret2;exact ON HS.o (by rw[←q.o];exact HP.o) (by rw[←q.o,Int.toNat_natCast,←HY.o];exact u.o) (HM.o.below g.o) (Ch.of_below g.o)
   ·have u:=b9 l;have N:((y:Int)==0)=false:=by simp;omega
    clear l;go_in;go_wp2_with fail;refine(O0 HM.o HS.o).mono ?_;rintro e w9 ⟨rfl,k⟩;have k:=k.symm;subst k;go_wp2_with fail;refine(cB P.gen HT.o n).mono ?_;rw[HP.o];rintro e f ⟨rfl,c⟩;have g:=b9 c;have J:f.cell? ⟨j,1,none⟩=some (.slice (some ⟨b,d,none⟩) t.length s):=by rw[c.cell (p:=⟨j,1,none⟩) m.o.1];exact M
    have L:f.cell? ⟨b,d+n,none⟩=some (.int .i64 y):=by rw[c.cell (p:=⟨b,d+n,none⟩) m.o.2];exact E
    have j1: ∀wx,Ch D f wx→wx.cell? ⟨j,1,none⟩=some (.slice (some ⟨b,d,none⟩) t.length s):=fun wx z=>by rw[World.cell?_of_block (w:=f) (a:=⟨j,1,none⟩) (z.block j (c8 J) x.o.1)];exact J
    have j2: ∀wx,Ch D f wx→wx.cell? ⟨b,d+n,none⟩=some (.int .i64 y):=fun wx z=>by rw[World.cell?_of_block (w:=f) (a:=⟨b,d+n,none⟩) (z.block b (c8 L) x.o.2)];exact L
    have j3: ∀wx,Ch D f wx→wx.cell? ⟨j,2,none⟩=some dv:=fun wx z=>by rw[World.cell?_of_block (w:=f) (a:=⟨j,2,none⟩) (z.block j (c8 J) x.o.1),c.cell (p:=⟨j,2,none⟩) m.o.1];exact c2
    have b0:=b9 (HD.o.below c);have g0:Ch D f f.drew:=Ch.of_below (d8 _ _);clear c;go_wp2_with fail
    go_region_held3 (fun wx=>Ch D f wx) (first|assumption)
     (first
      |(go_at_call 87;refine(uX (b0.o.below (d8 _ _)) y a0.o).mono ?_;rintro e w3 ⟨r,rfl,ho,X,Y⟩;have U:Ch D f w3:=Ch.self (by assumption) Y))
    all_goals go_wp2_with fail
    all_goals go_ret2
    all_goals exact OM HS.o (by rw[←q.o];exact HP.o) (by rw[←q.o,Int.toNat_natCast];exact HY.o) u.o (HM.o.below g.o) g.o ho X U
 ·have HS:=b9 hs;clear h hs hrd;go_in;go_wp2_with fail;refine(jN HM.o HS.o).mono ?_;rintro e f ⟨rfl,W,Z⟩;go_wp2_with fail;go_ret2;exact OL HS.o W Z
end
end
section
def Tx(A:n9)(w:d9)(v:Value)(ps:List (Int × f7)):Prop:=
 (∃ao cap,v= .slice ao ps.length cap∧ps.length≤cap∧cap≤maxLen∧(ao=none→cap=0)∧
  ∀i (h:i<ps.length),∃b off u,ao=some ⟨b,off,none⟩∧ ¬A b∧w.cell? ⟨b,off+i*2,none⟩=some (.int .i64 ps[i].1)∧w.cell? ⟨b,off+i*2+1,none⟩=some u∧Bx A w u ps[i].2)∧
 ∀p∈ps,-9223372036854775808≤p.1∧p.1<9223372036854775808
theorem Tx.ch{A A':n9}{w w':d9}{v:Value}{ps:List (Int × f7)}(h:Tx A w v ps)(hc:Ch A w w')(hd: ∀x,A' x→A x∨w.heap.size≤x):Tx A' w' v ps:=by
 obtain⟨⟨z,g,e,s,r,p,o⟩,n⟩:=h;refine⟨⟨z,g,e,s,r,p,fun i l=>?_⟩,n⟩;obtain⟨b,c,u,t,f,j,y,k⟩:=o i l;have d:=c8 j;refine⟨b,c,u,t,fun m=>?_,?_,?_,k.ch hc hd⟩
 ·rcases hd b m with q|q
  ·exact f q
  ·simp only at d;omega
 ·rw[World.cell?_of_block (w:=w) (a:=⟨b,c+i*2,none⟩) (hc.block b d f)];exact j
 ·rw[World.cell?_of_block (w:=w) (a:=⟨b,c+i*2+1,none⟩) (hc.block b d f)];exact y
theorem Tx.below{A:n9}{w w':d9}{v:Value}{ps:List (Int × f7)}(h:Tx A w v ps)(hb:f8 w w'):Tx A w' v ps:=h.ch (Ch.of_below hb) (fun _ hx=> .inl hx)
theorem Tx.form{A:n9}{w:d9}{v:Value}{ps:List (Int × f7)}(h:Tx A w v ps): ∃ao cap,v= .slice ao ps.length cap∧ps.length≤cap∧cap≤maxLen:=by
 obtain⟨⟨ao,cap,e,b,a,_⟩,_⟩:=h;exact⟨ao,cap,e,b,a⟩
theorem Tx.at{A:n9}{w:d9}{ao:Option Addr}{n cap:Nat}{ps:List (Int × f7)}(h:Tx A w (.slice ao n cap) ps){i:Nat}(hi:i<ps.length): ∃b off u,ao=some ⟨b,off,none⟩∧ ¬A b∧w.cell? ⟨b,off+i*2,none⟩=some (.int .i64 ps[i].1)∧w.cell? ⟨b,off+i*2+1,none⟩=some u∧Bx A w u ps[i].2:=by
 obtain⟨⟨ao',cap',e,j,g,f,a⟩,d⟩:=h;simp only[Value.slice.injEq]at e;obtain⟨b,off,u,c,r⟩:=a i hi;exact⟨b,off,u,e.1.trans c,r⟩
def rQ(ps:List (Int × f7))(k:Nat):List Int:=(ps.take k).map (·.1)
theorem CX{ps:List (Int × f7)}{k:Nat}(h:k<ps.length):rQ ps (k+1)=rQ ps k++[ps[k].1]:=by
 unfold rQ;rw[List.take_succ_eq_append_getElem h,List.map_append];rfl
def Sn(w:d9)(sb:Nat)(ps:List (Int × f7))(k:Nat):Prop:= ∃cur,w.heap[sb]?=some (.cells cur 177 (0,0))∧cur.size=8∧ ∀p:Nat,p<8→cur[p]?=some (.bool (decide ((p:Int)∈rQ ps k)))
section

variable{w w':d9}{sb:Nat}{ps:List (Int × f7)}{k:Nat}

theorem Sn.lt(h:Sn w sb ps k):sb<w.heap.size:=by obtain⟨cur,a,_⟩:=h;exact(Array.getElem?_eq_some_iff.1 a).1
theorem Sn.below(h:Sn w sb ps k)(hb:f8 w w'):Sn w' sb ps k:=by
 have:=h.lt;obtain⟨cur,c,b,a⟩:=h;exact⟨cur,by rw[hb.block sb this];exact c,b,a⟩
theorem Sn.cell(h:Sn w sb ps k){p:Nat}(hp:p<8):w.cell? ⟨sb,p,none⟩=some (.bool (decide ((p:Int)∈rQ ps k))):=by
 obtain⟨cur,b,c,a⟩:=h;rw[cell_of_row w sb p cur _ (0,0) b];exact a p hp
theorem Sn.soft(h:Sn w sb ps k)(i:Nat):w.frozen? ⟨sb,i,none⟩=false:=by
 obtain⟨cur,a,_⟩:=h;simp[World.frozen?,a]
theorem Sn.set(h:Sn w sb ps k)(hk:k<ps.length){p:Nat}(hp:p<8)(he:ps[k].1=(p:Int)):Sn (w.setCell ⟨sb,p,none⟩ (.bool true)) sb ps (k+1):=by
 obtain⟨cur,d,c,b⟩:=h;refine⟨_,V5 d p _,by simpa using c,fun q a=>?_⟩;rw[CX hk,he,Array.getElem?_setIfInBounds];by_cases e:p=q
 ·subst e;rw[if_pos rfl,if_pos (by omega),decide_eq_true (by simp)]
 ·rw[if_neg e,b q a];congr 2;simp only[List.mem_append,List.mem_singleton];exact decide_eq_decide.2 ⟨fun h=> .inl h,fun h=>by rcases h with h|h;exact h;omega⟩
theorem kN{n:Nat}(hk:k<ps.length)(h:ps[k].1<0∨(n:Int)≤ps[k].1):K2 n (rQ ps k) (ps.drop k)=91:=by
 rw[List.drop_eq_getElem_cons hk];unfold K2;rw[if_pos h]
theorem pN{n:Nat}(hk:k<ps.length)(h: ¬(ps[k].1<0∨(n:Int)≤ps[k].1))(h2:ps[k].1∈rQ ps k):K2 n (rQ ps k) (ps.drop k)=93:=by
 rw[List.drop_eq_getElem_cons hk];unfold K2;rw[if_neg h,if_pos h2]
theorem sQ{n:Nat}(hk:k<ps.length)(h: ¬(ps[k].1<0∨(n:Int)≤ps[k].1))(h2:ps[k].1∉rQ ps k)(h3:1024<ps[k].2.length):K2 n (rQ ps k) (ps.drop k)=6:=by
 rw[List.drop_eq_getElem_cons hk];unfold K2;rw[if_neg h,if_neg h2,if_pos h3]
theorem sP{n:Nat}(hk:k<ps.length)(h: ¬(ps[k].1<0∨(n:Int)≤ps[k].1))(h2:ps[k].1∉rQ ps k)(h3: ¬1024<ps[k].2.length):K2 n (rQ ps k) (ps.drop k)=K2 n (rQ ps (k+1)) (ps.drop (k+1)):=by
 rw[List.drop_eq_getElem_cons hk,CX hk]
 conv=>lhs;unfold K2
 rw[if_neg h,if_neg h2,if_neg h3]
theorem wF{n:Nat}(hk:ps.length≤k):K2 n (rQ ps k) (ps.drop k)=0:=by
 rw[List.drop_of_length_le hk];rfl
end

def Mg(w:d9)(n:Nat)(ps:List (Int × f7))(iv:Value)(wr:d9):Prop:=
 ∃k:Nat,k≤ps.length∧iv= .int .i64 k∧x9 n ps=K2 n (rQ ps k) (ps.drop k)∧Sn wr w.heap.size ps k∧f8 w wr
section

variable{A D:n9}{w w':d9}{v dv tv lv:Value}{P P':Bo}{S S':Dk}{pb:Nat}{ps:List (Int × f7)}

theorem cC(h:MP A D w pb tv dv P S)(hl:Tx A w lv ps):Calls Tryz.prog 82 #[.pointer (some ⟨pb,0,none⟩),lv] w fun e w'=>e= .returned (.int .i64 (x9 P.tab.length ps))∧f8 w w':=by
 have HM:=b9 h;have HL:=b9 hl;obtain⟨lo,lc,rfl,X,H⟩:=hl.form;have c0:(ps.length:Int)≤9223372036854775807:=by simp only[maxLen]at H;omega
 clear h hl X H
 have M:c6 (Sn (w.alloc (Obj.cells #[.bool false,.bool false,.bool false,.bool false,.bool false,.bool false,.bool false,.bool false] 177)) w.heap.size ps 0):=by
  refine⟨_,heap_alloc_new w _,rfl,fun p R=>?_⟩;have:p=0∨p=1∨p=2∨p=3∨p=4∨p=5∨p=6∨p=7:=by omega
  rcases this with rfl|rfl|rfl|rfl|rfl|rfl|rfl|rfl<;>rfl
 go_in;go_wp2_with fail;go_loopw [10] (fun iv wr=>Mg w P.tab.length ps iv wr) (fun iv _=>ps.length-(intOf iv).toNat)
 case atStart=>exact⟨0,Nat.zero_le _,rfl,rfl,M.o,a8 _ _⟩
 case round=>
  obtain⟨k,hk,rfl,I,hS,hB⟩:=hrel;have m:=b9 I;have HS:=b9 hS;have HB:=b9 hB;clear I hS hB M;by_cases g:k<ps.length
  ·obtain⟨b,a0,u,rfl,_,l0,l1,K⟩:=(HL.o.below HB.o).at g;have HU:=b9 K.1;obtain⟨p,R⟩:=c7 (ps[k].1);obtain⟨d,hd⟩:=c7 (ps[k].2);rw[←R]at l0;rw[←hd]at HU;have HP:=b9 R;have O:=b9 hd;obtain⟨uo,uc,rfl,_,_⟩:=C9 HU.o;have Q:(k:Int)<(ps.length:Int):=by omega
   have Z:=b9 (HM.o.below HB.o);clear R hd K;obtain⟨wa,j⟩:=c7 (wr.alloc (Obj.cells #[.int .i64 p,.slice uo d.length uc] 77));have t:=b9 j;have s:f8 wr wa:=by rw[j];exact a8 _ _
   have E:=b9 (Z.o.below s);have N:c6 (wa.cell? ⟨wr.heap.size,0,none⟩=some (.int .i64 p)):=by show _=_;rw[j];simp[go_sem]
   have y:c6 (wa.cell? ⟨wr.heap.size,1,none⟩=some (.slice uo d.length uc)):=by show _=_;rw[j];simp[go_sem]
   have B:=b9 (HS.o.below s);have z:=b9 (a9 HB.o s);have j0: ∀wx,f8 wa wx→wx.cell? ⟨pb,0,none⟩=some (.int .u64 P.gen):=fun wx G=>Fo (E.o.below G);have j1: ∀wx,f8 wa wx→wx.cell? ⟨pb,1,none⟩=some tv:=fun wx G=>Hy (E.o.below G);have T: ∀wx,f8 wa wx→wx.cell? ⟨wr.heap.size,0,none⟩=some (.int .i64 p):=fun wx G=>by rw[G.cell (p:=⟨wr.heap.size,0,none⟩) (c8 N.o)];exact N.o
   have x:=b9 E.o.tab;have f0:f8 wa wa.drew:=d8 _ _;clear j s
   cases F:fV P.tab.length p
   ·have HH:=b9 F
    have HR:c6 (x9 P.tab.length ps=91):=by
     show _=_;rw[m.o,kN g];rw[←HP.o];have:=of_decide_eq_false F;omega
    clear F;go_wp2_with fail;rw[←t.o]
    go_region_held3 (fun wx=>f8 wa wx) (first|assumption)
     (first
      |(go_at_call 154;refine(cB P.gen (x.o.below (by assumption)) p).mono ?_;rw[HH.o];rintro e f ⟨rfl,c⟩;have a:f8 wa f:=a9 (by assumption) c))
    all_goals go_wp2_with fail
    all_goals (try simp only[Exit.inBlock,Exit.then])
    all_goals go_ret
    all_goals exact⟨by rw[HR.o];rfl,a9 z.o a⟩
   ·have HH:=b9 F;obtain⟨W,U⟩:=LH F;have h8:=HM.o.ok.n8;obtain⟨n,rfl⟩: ∃n:Nat,p=n:=⟨p.toNat,by omega⟩;have r:n<8:=by omega
    have C:c6 (¬(ps[k].1<0∨(P.tab.length:Int)≤ps[k].1)):=by show¬_;rw[←HP.o];omega
    have b0:(n:Int)<8:=by omega
    clear F W U h8;by_cases i:(n:Int)∈rQ ps k
    ·have HR:c6 (x9 P.tab.length ps=93):=by
      show _=_;rw[m.o,pN g C.o (by rw[←HP.o];exact i)]
     have v:=b9 (decide_eq_true i);clear i;go_wp2_with fail;rw[←t.o]
     go_region_held3 (fun wx=>f8 wa wx) (first|assumption)
      (first
       |(go_at_call 154;refine(cB P.gen (x.o.below (by assumption)) n).mono ?_;rw[HH.o];rintro e f ⟨rfl,c⟩;have a:f8 wa f:=a9 (by assumption) c))
     all_goals
      have q:=b9 a;have q1:=T f a;have q2:f.cell? ⟨w.heap.size,n,none⟩=some (.bool true):=by rw[(B.o.below a).cell r,v.o]
      clear a c;go_wp2_with fail
      (try simp only[Exit.inBlock,Exit.then])
      go_ret;exact⟨by rw[HR.o];rfl,a9 z.o q.o⟩
    ·have v:=b9 (decide_eq_false i);have L:c6 (ps[k].1∉rQ ps k):=by show¬_;rw[←HP.o];exact i
     clear i;by_cases J:d.length≤1024
     ·have HR:c6 (x9 P.tab.length ps=K2 P.tab.length (rQ ps (k+1)) (ps.drop (k+1))):=by
       show _=_;rw[m.o,sP g C.o L.o (by rw[←O.o];omega)]
      have Y:(d.length:Int)≤1024:=by omega
      have d0:decide ((1024:Int)<(d.length:Int))=false:=decide_eq_false (by omega);clear J;go_wp2_with fail;rw[←t.o]
      go_region_held3 (fun wx=>f8 wa wx) (first|assumption)
       (first
        |(go_at_call 154;refine(cB P.gen (x.o.below (by assumption)) n).mono ?_;rw[HH.o];rintro e f ⟨rfl,c⟩;have a:f8 wa f:=a9 (by assumption) c))
      all_goals
       have q:=b9 (a9 z.o a);have l:=b9 (B.o.below a);have q1:=T f a;have q3:f.cell? ⟨wr.heap.size,1,none⟩=some (.slice uo d.length uc):=by rw[a.cell (p:=⟨wr.heap.size,1,none⟩) (c8 y.o)];exact y.o
       have q2:f.cell? ⟨w.heap.size,n,none⟩=some (.bool false):=by rw[l.o.cell r,v.o]
       have q4:=l.o.soft n;clear a c;go_wp2_with fail;go_roundw
      case rel=>exact⟨k+1,g,by simp,HR.o,l.o.set g r HP.o.symm,q.o.setCell (p:=⟨w.heap.size,n,none⟩) (by simp) _⟩
      case measure=>simp[intOf];omega
     ·have HR:c6 (x9 P.tab.length ps=6):=by
       show _=_;rw[m.o,sQ g C.o L.o (by rw[←O.o];omega)]
      have Y:(1024:Int)<(d.length:Int):=by omega
      clear J;go_wp2_with fail;rw[←t.o]
      go_region_held3 (fun wx=>f8 wa wx) (first|assumption)
       (first
        |(go_at_call 154;refine(cB P.gen (x.o.below (by assumption)) n).mono ?_;rw[HH.o];rintro e f ⟨rfl,c⟩;have a:f8 wa f:=a9 (by assumption) c))
      all_goals
       have q:=b9 (a9 z.o a);have l:=b9 (B.o.below a);have q1:=T f a;have q3:f.cell? ⟨wr.heap.size,1,none⟩=some (.slice uo d.length uc):=by rw[a.cell (p:=⟨wr.heap.size,1,none⟩) (c8 y.o)];exact y.o
       have q2:f.cell? ⟨w.heap.size,n,none⟩=some (.bool false):=by rw[l.o.cell r,v.o]
       clear a c;go_wp2_with fail
       (try simp only[Exit.inBlock,Exit.then])
       go_ret;exact⟨by rw[HR.o];rfl,q.o⟩
  ·have HR:c6 (x9 P.tab.length ps=0):=by show _=_;rw[m.o,wF (by omega)]
   have Q: ¬(k:Int)<(ps.length:Int):=by omega
   go_wp2_with fail;go_ret;exact⟨by rw[HR.o];rfl,HB.o⟩
end
end
section
def Zt(w:d9)(g cap:Nat)(t:f7):Prop:=(∃cur,w.heap[g]?=some (.cells cur 3 (0,0))∧cur.size=cap∧ ∀i,i<t.length→cur[i]?=some (.int .i64 (tn t i:Nat)))∧t.length≤cap∧cap≤maxLen
section

variable{w w':d9}{g cap:Nat}{t:f7}

theorem Zt.cell(h:Zt w g cap t){i:Nat}(hi:i<t.length):w.cell? ⟨g,i,none⟩=some (.int .i64 (tn t i:Nat)):=by
 obtain⟨⟨cur,b,c,a⟩,_⟩:=h;rw[cell_of_row w g i cur _ (0,0) b];exact a i hi
theorem Zt.soft(h:Zt w g cap t)(i:Nat):w.frozen? ⟨g,i,none⟩=false:=by
 obtain⟨⟨cur,a,_⟩,_⟩:=h;simp[World.frozen?,a]
theorem Zt.lt(h:Zt w g cap t):g<w.heap.size:=by obtain⟨⟨cur,a,_⟩,_⟩:=h;exact(Array.getElem?_eq_some_iff.1 a).1
theorem Zt.keep(h:Zt w g cap t)(hk:w'.heap[g]?=w.heap[g]?):Zt w' g cap t:=by
 obtain⟨⟨cur,c,b⟩,a⟩:=h;exact⟨⟨cur,by rw[hk];exact c,b⟩,a⟩
theorem Zt.below(h:Zt w g cap t)(hb:f8 w w'):Zt w' g cap t:=h.keep (hb.block g h.lt)
theorem Zt.set(h:Zt w g cap t){j:Nat}(x:Nat):Zt (w.setCell ⟨g,j,none⟩ (.int .i64 x)) g cap (t.set j x):=by
 obtain⟨⟨cur,k,f,d⟩,c,b⟩:=h;refine⟨⟨_,V5 k j _,by simpa using f,fun i a=>?_⟩,by simpa using c,b⟩;rw[List.length_set]at a;rw[W9 a,Array.getElem?_setIfInBounds];by_cases e:j=i
 ·subst e;rw[if_pos rfl,if_pos (by omega),if_pos rfl]
 ·rw[if_neg e,if_neg e];exact d i a
theorem Zt.tw(h:Zt w g cap t):Tw w (.slice (some ⟨g,0,none⟩) t.length cap) t:=by
 refine⟨_,cap,by rw[i8],by rw[i8];exact h.2.1,h.2.2,by simp,fun i a=>⟨g,0,rfl,?_⟩⟩;rw[i8]at a;rw[Nat.zero_add,ER a];exact h.cell a
theorem WQ{base n:Nat}{v:Value}(h:w.ownsRow base 3 1 v n ((ib t).map (Value.int .i64)))(h1:1≤t.length): ∃g cap,v= .slice (some ⟨g,0,none⟩) t.length cap∧Zt w g cap t∧base≤g:=by
 obtain⟨f,m⟩:=h;have c:n=t.length:=by rw[List.length_map,i8]at f;omega
 subst c;rcases m with ⟨rfl,p⟩|⟨g,cap,cur,rfl,l,k,b,d,o,a⟩
 ·omega
 ·refine⟨g,cap,rfl,⟨⟨cur,k,by omega,fun i j=>?_⟩,b,d⟩,l⟩;have e:(cur.toList.take (t.length*1))[i]?=((ib t).map (Value.int .i64))[i]?:=by rw[a]
  rw[List.getElem?_take,if_pos (by omega)]at e;rw[←Array.getElem?_toList,e];unfold ib tn;simp[List.getD,j]
end

def D4(t:f7):List (Int × f7)→Nat→f7→Dk→Option (f7) × Dk
 |[],_,n,S=>(some n,S)
 |(p,d)::l,b,n,S=>if d=[]then D4 t l b (n.set p.toNat 0) S else
   if l7 S (q8 t b:Nat) d=0 then D4 t l (q8 t b) (n.set p.toNat (q8 t b)) (i7 S (q8 t b:Nat) d)else(none,i7 S (q8 t b:Nat) d)
theorem C6{S:Dk}{i:Int}{b:f7}:(i7 S i b).bl.length=S.bl.length:=by
 unfold i7;split
 ·rfl
 ·split
  ·rfl
  ·split
   ·rfl
   ·simp[M7]
theorem dJ{S:Dk}{i:Int}{b:f7}:(i7 S i b).wr≤S.wr+1:=by
 unfold i7;split
 ·omega
 ·split
  ·omega
  ·split
   ·show S.wr≤_;omega
   ·show S.wr+1≤_;omega
section

variable{t n:f7}{ps:List (Int × f7)}{b k:Nat}{S:Dk}

theorem EB(hk:k<ps.length)(hd:ps[k].2=[]):D4 t (ps.drop k) b n S=D4 t (ps.drop (k+1)) b (n.set ps[k].1.toNat 0) S:=by
 rw[List.drop_eq_getElem_cons hk];conv=>lhs;unfold D4
 rw[if_pos hd]
theorem EA(hk:k<ps.length)(hd:ps[k].2≠[])(hw:l7 S (q8 t b:Nat) ps[k].2=0):D4 t (ps.drop k) b n S=D4 t (ps.drop (k+1)) (q8 t b) (n.set ps[k].1.toNat (q8 t b)) (i7 S (q8 t b:Nat) ps[k].2):=by
 rw[List.drop_eq_getElem_cons hk];conv=>lhs;unfold D4
 rw[if_neg hd,if_pos hw]
theorem EC(hk:k<ps.length)(hd:ps[k].2≠[])(hw:l7 S (q8 t b:Nat) ps[k].2≠0):D4 t (ps.drop k) b n S=(none,i7 S (q8 t b:Nat) ps[k].2):=by
 rw[List.drop_eq_getElem_cons hk];unfold D4;rw[if_neg hd,if_neg hw]
theorem OC(hk:ps.length≤k):D4 t (ps.drop k) b n S=(some n,S):=by rw[List.drop_of_length_le hk];rfl
end

def Kd(t tk:f7)(b:Nat):Prop:= ∀y,2≤y→y≤b→y∈t∨y∈tk
theorem OP{t tk:f7}{b:Nat}(h:Kd t tk b):Kd t (q8 t b::tk) (q8 t b):=by
 intro y a d;by_cases e:y≤b
 ·rcases h y a e with q|q
  ·exact .inl q
  ·exact .inr (by simp[q])
 ·by_cases c:y=q8 t b
  ·exact .inr (by simp[c])
  ·exact .inl (mM (t:=t) (b:=b) (by omega) (by omega))
structure Nx(w:d9)(nb g cap gen:Nat)(t:f7):Prop where
 head:w.heap[nb]?=some (.cells #[.int .u64 gen,.slice (some ⟨g,0,none⟩) t.length cap] 120 (0,0))
 row:Zt w g cap t
 ne:g≠nb
section

variable{w w':d9}{nb g cap gen:Nat}{t:f7}

theorem Nx.lt(h:Nx w nb g cap gen t):nb<w.heap.size:=(Array.getElem?_eq_some_iff.1 h.head).1
theorem Nx.keep(h:Nx w nb g cap gen t)(h1:w'.heap[nb]?=w.heap[nb]?)(h2:w'.heap[g]?=w.heap[g]?):Nx w' nb g cap gen t:=⟨by rw[h1];exact h.head,h.row.keep h2,h.ne⟩
theorem Nx.below(h:Nx w nb g cap gen t)(hb:f8 w w'):Nx w' nb g cap gen t:=h.keep (hb.block _ h.lt) (hb.block _ h.row.lt)
theorem Nx.ch{E:n9}(h:Nx w nb g cap gen t)(hc:Ch E w w')(h1: ¬E nb)(h2: ¬E g):Nx w' nb g cap gen t:=h.keep (hc.block _ h.lt h1) (hc.block _ h.row.lt h2)
theorem Nx.c0(h:Nx w nb g cap gen t):w.cell? ⟨nb,0,none⟩=some (.int .u64 gen):=by rw[cell_of_row w nb 0 _ _ (0,0) h.head];rfl
theorem Nx.c1(h:Nx w nb g cap gen t):w.cell? ⟨nb,1,none⟩=some (.slice (some ⟨g,0,none⟩) t.length cap):=by rw[cell_of_row w nb 1 _ _ (0,0) h.head];rfl
theorem Nx.set(h:Nx w nb g cap gen t)(j x:Nat):Nx (w.setCell ⟨g,j,none⟩ (.int .i64 x)) nb g cap gen (t.set j x):=
 ⟨by rw[l8 j _ (fun e=>h.ne e.symm),List.length_set];exact h.head,h.row.set x,h.ne⟩
theorem vH(h:Zt w g cap t)(gen:Nat):Nx (w.alloc (.cells #[.int .u64 gen,.slice (some ⟨g,0,none⟩) t.length cap] 120)) w.heap.size g cap gen t:=
 ⟨heap_alloc_new w _,h.below (a8 _ _),fun e=>by have:=h.lt;omega⟩
end

theorem XO{w w5:d9}{t:TypeId}(h:Below (w.alloc (Obj.cells #[.int .u64 0,.slice none 0 0] t)).drew.heap.size (w.alloc (Obj.cells #[.int .u64 0,.slice none 0 0] t)).drew w5):w5.heap[w.heap.size]?=some (.cells #[.int .u64 0,.slice none 0 0] t (0,0)):=by
 have a:(w.alloc (Obj.cells #[.int .u64 0,.slice none 0 0] t)).drew.heap[w.heap.size]?=some (.cells #[.int .u64 0,.slice none 0 0] t (0,0)):=heap_alloc_new w _;rw[h.block w.heap.size (by simp[World.drew])];exact a
theorem jZ{w:d9}{T:Nat}{t:TypeId}{a b:Value}(h:w.heap[T]?=some (.cells #[a,b] t (0,0))):w.cell? ⟨T,0,none⟩=some a∧w.cell? ⟨T,1,none⟩=some b∧w.frozen? ⟨T,0,none⟩=false∧w.frozen? ⟨T,1,none⟩=false:=by
 refine⟨?_,?_,?_,?_⟩
 ·rw[cell_of_row w T _ _ _ (0,0) h];rfl
 ·rw[cell_of_row w T _ _ _ (0,0) h];rfl
 ·simp[World.frozen?,h]
 ·simp[World.frozen?,h]
theorem VR{w:d9}{T:Nat}{t:TypeId}{a b a' b':Value}(h:w.heap[T]?=some (.cells #[a,b] t (0,0))):((w.setCell ⟨T,0,none⟩ a').setCell ⟨T,1,none⟩ b').heap[T]?=some (.cells #[a',b'] t (0,0)):=by
 simp only[Sort.setCell_eq];simp[Sort.mapBlock,Array.getElem?_modify,h,Sort.onCells]
theorem DH{w5:d9}{nb g cap:Nat}{t:f7}{a b:Value}(h:w5.heap[nb]?=some (.cells #[a,b] 120 (0,0)))(hZ:Zt w5 g cap t)(hne:g≠nb)(gen:Nat):
  Nx ((w5.setCell ⟨nb,0,none⟩ (.int .u64 gen)).setCell ⟨nb,1,none⟩ (.slice (some ⟨g,0,none⟩) t.length cap)) nb g cap gen t:=
 ⟨VR h,hZ.keep (by rw[l8 1 _ hne,l8 0 _ hne]),hne⟩
def Gg(A:n9)(w:d9)(pb:Nat)(tv dv:Value)(P:Bo)(S:Dk)(ps:List (Int × f7))(nb g cap:Nat)(bv iv:Value)(wr:d9):Prop:=
 ∃(k b:Nat) (t' tk:f7) (A' D':n9) (S':Dk),k≤ps.length∧iv= .int .i64 k∧bv= .int .i64 b∧D4 P.tab ps 1 P.tab S=D4 P.tab (ps.drop k) b t' S'∧
  Kd P.tab tk b∧tk.length≤k∧b≤2+P.tab.length+k∧t'.length=P.tab.length∧
  MP A' D' wr pb tv dv P S'∧(∀x,A' x→A x∨w.heap.size<x)∧Ch A w wr∧Nx wr nb g cap (P.gen+1) t'∧ ¬A' nb∧ ¬A' g∧
  wr.heap[w.heap.size]?=some (.cells #[.int .u64 0,.slice none 0 0] 120 (0,0))∧w.heap.size<nb∧w.heap.size<g∧S'.wr≤S.wr+k
theorem BM.other{F:Value→Value→Bo→Array Value}{TB TD:TypeId}{A D:n9}{w:d9}{pb:Nat}{tv dv:Value}{P:Bo}{S:Dk}(h:BM F TB TD A D w pb tv dv P S){g:Nat}(hg: ¬A g)(i:Nat)(u:Value):BM F TB TD A D (w.setCell ⟨g,i,none⟩ u) pb tv dv P S:=
 h.keep (fun x hx=>l8 i u (fun e=>hg (e▸hx))) (by simp)
theorem P7{A:n9}{w w':d9}(h:Ch A w w'){g:Nat}(hg:w.heap.size≤g)(i:Nat)(u:Value):Ch A w (w'.setCell ⟨g,i,none⟩ u):=
 h.trans (Ch.of_grown (D:=fun x=>x=g) (A7 w' g i u) (fun x hx=>by cases hx;rfl)) (fun x hx=> .inr (hx▸hg))
def Ly(A:n9)(w:d9)(pb:Nat)(tv dv:Value)(P:Bo)(S:Dk)(ps:List (Int × f7))(e:Ending)(w':d9):Prop:=
 ∃A' D',MP A' D' w' pb tv dv P (D4 P.tab ps 1 P.tab S).2∧(∀x,A' x→A x∨w.heap.size≤x)∧Ch A w w'∧(D4 P.tab ps 1 P.tab S).2.wr≤S.wr+ps.length∧
  (∀t',(D4 P.tab ps 1 P.tab S).1=some t'→ ∃g cap,e= .returned (.agg #[.int .u64 (P.gen+1:Nat),.slice (some ⟨g,0,none⟩) t'.length cap])∧Zt w' g cap t'∧ ¬A' g∧w.heap.size≤g∧t'.length=P.tab.length)∧
  ((D4 P.tab ps 1 P.tab S).1=none→ ∃u pv,e= .panicked [{v:= .iface u pv,recovered:=false}])
section

variable{A D:n9}{w w':d9}{v dv tv lv:Value}{P P':Bo}{S S':Dk}{pb:Nat}{ps:List (Int × f7)}

theorem DZ(h:MP A D w pb tv dv P S)(hl:Tx A w lv ps)(hok:UB P.tab.length ps)(hg:P.gen<1099511627776)(hwr:S.wr<4611686018427387904):
  Calls Tryz.prog 84 #[.pointer (some ⟨pb,0,none⟩),lv] w fun e w'=>Ly A w pb tv dv P S ps e w':=by
 have HM:=b9 h;have HL:=b9 hl;have X0:=b9 hok;have I1:=b9 hwr;obtain⟨lo,lc,rfl,w1,v1⟩:=hl.form;have t1:=Nat.le_trans (aX hok) h.ok.n8;have Y1:(ps.length:Int)≤8:=by omega
 have r1:IntKind.u64.wrap ((P.gen:Int)+1)=((P.gen+1:Nat):Int):=by rw[IntKind.wrap_u64];omega
 obtain⟨wz,Q⟩:=c7 (w.alloc (Obj.cells #[.int .u64 0,.slice none 0 0] 120));have G1:=b9 Q;have v0:f8 w wz:=by rw[Q];exact a8 _ _
 have S1:=b9 v0;have D1:c6 (wz.heap.size=w.heap.size+1):=by show _=_;rw[Q];simp
 have W:c6 (wz.heap[w.heap.size]?=some (.cells #[.int .u64 0,.slice none 0 0] 120 (0,0))):=by show _=_;rw[Q];exact heap_alloc_new w _
 have p0:=b9 (h.below v0);have j0: ∀wx,f8 wz wx→wx.cell? ⟨pb,0,none⟩=some (.int .u64 P.gen):=fun wx f=>Fo (p0.o.below f);have j1: ∀wx,f8 wz wx→wx.cell? ⟨pb,1,none⟩=some tv:=fun wx f=>Hy (p0.o.below f);have K1:=b9 p0.o.tab;have H8:=b9 h.ok.n8;have H1:=b9 h.ok.tok.1;have T:f8 wz wz.drew:=d8 _ _;clear h hl hok hg hwr w1 v1 t1 Q v0;go_in;go_wp2_with fail;rw[←G1.o];go_cut [5] (fun nv wx=> ∃nb g F,nv= .pointer (some ⟨nb,0,none⟩)∧Nx wx nb g F (P.gen+1) P.tab∧wz.heap.size≤nb∧wz.heap.size≤g∧f8 wz wx)
 case first=>
  go_region_held3 (fun wx=>f8 wz wx) (first|assumption|exact a9 (by assumption) (a8 _ _)|exact(a8 _ _).drew|exact(Below.setCell (by assumption) (p:=⟨_,0,none⟩) (Nat.le_refl _) _).setCell (p:=⟨_,1,none⟩) (Nat.le_refl _) _)
   (first
    |(go_at_call 155;refine(GH (K1.o.below (by assumption)) H8.o).mono ?_;rintro e w5 ⟨cv,rfl,C1,P0⟩;obtain⟨g,cp,x1,hZ,J⟩:=WQ C1 H1.o;subst x1;have t0:f8 wz w5:=a9 (by assumption) P0;try (have C:=XO P0;obtain⟨z0,z1,f0,f1⟩:=jZ C)))
  all_goals go_wp2_with fail
  all_goals go_meet
  ·exact⟨_,g,cp,rfl,vH hZ (P.gen+1),t0.size,Nat.le_trans (Below.size (by assumption)) J,a9 t0 (a8 _ _)⟩
  ·exact⟨_,g,cp,rfl,DH C hZ (by simp[World.drew]at J;omega) (P.gen+1),Nat.le_refl _,by simp[World.drew]at J;omega,(t0.setCell (p:=⟨_,0,none⟩) (Nat.le_refl _) _).setCell (p:=⟨_,1,none⟩) (Nat.le_refl _) _⟩
 case rest=>
  obtain⟨nb,g,F,rfl,hN,C,hg,i0⟩:=hcut
  have c:c6 (Gg A w pb tv dv P S ps nb g F (.int .i64 1) (.int .i64 0) wc):=by
   have W1:=D1.o;refine⟨0,1,P.tab,[],A,D,S,Nat.zero_le _,rfl,rfl,rfl,fun y h1 h2=>by omega,Nat.le_refl _,by omega,rfl,p0.o.below i0,fun x f=> .inl f,Ch.of_below (a9 S1.o i0),hN,fun e=>?_,fun e=>?_,?_,by omega,by omega,Nat.le_refl _⟩
   ·have:=HM.o.al nb e;omega
   ·have:=HM.o.al g e;omega
   ·rw[i0.block w.heap.size (by omega)];exact W.o
  clear hN C hg i0 j0 j1 T;go_wp2_with fail;go_loopw [6,24] (fun bv iv wr=>Gg A w pb tv dv P S ps nb g F bv iv wr) (fun _ iv _=>ps.length-(intOf iv).toNat)
  case atStart=>exact c.o
  case round=>
   obtain⟨k,b,t',tk,A',D',S',hk,rfl,rfl,q0,O0,D0,M0,C0,hM,Q0,hC,hN,J0,K0,s0,C,J,B0⟩:=hrel;have H:=b9 q0;have O:c6 (Kd P.tab tk b∧tk.length≤k):=⟨O0,D0⟩;have M:=b9 C0;have N:=b9 hM;have G:=b9 Q0;have HC:=b9 hC;have HN:=b9 hN;have j:c6 (¬A' nb∧ ¬A' g):=⟨J0,K0⟩;have W:=b9 s0;have m:c6 (w.heap.size<nb∧w.heap.size<g):=⟨C,J⟩;have U:=b9 B0;have T0:=b9 ((Array.getElem?_eq_some_iff.1 s0).1);have i1:=b9 M0;clear q0 O0 D0 C0 hM Q0 hC hN J0 K0 s0 C J B0 c M0;by_cases r:k<ps.length
   ·obtain⟨lb,V1,u,rfl,_,l0,l1,b0⟩:=(HL.o.ch (A':=A') HC.o (fun x f=>by rcases G.o x f with q|q;exact .inl q;exact .inr (by omega))).at r;obtain⟨pz,a0⟩:=c7 (ps[k].1);obtain⟨d,hd⟩:=c7 (ps[k].2);rw[←a0]at l0;rw[←hd]at b0;have H0:=X0.o.pg _ (List.getElem_mem r);have L0:=X0.o.ln _ (List.getElem_mem r);rw[←a0]at H0;rw[←hd]at L0;obtain⟨q,rfl⟩: ∃q:Nat,pz=q:=⟨pz.toNat,by omega⟩;have HQ:=b9 a0;have HD:=b9 hd;have W0:c6 (q<P.tab.length):=by show _<_;omega
    have o1:(k:Int)<(ps.length:Int):=by omega
    have X1:(q:Int)<(t'.length:Int):=by rw[M.o];omega
    obtain⟨uo,uc,rfl,_,_⟩:=C9 b0.1;obtain⟨wa,R⟩:=c7 (wr.alloc (Obj.cells #[.int .i64 q,.slice uo d.length uc] 77));have x0:=b9 R;have L:f8 wr wa:=by rw[R];exact a8 _ _
    have k1:=b9 L;have n0:wa.cell? ⟨wr.heap.size,0,none⟩=some (.int .i64 q):=by rw[R];simp[go_sem]
    have n1:wa.cell? ⟨wr.heap.size,1,none⟩=some (.slice uo d.length uc):=by rw[R];simp[go_sem]
    have A0:=b9 (N.o.below L);have r0:=b9 (HN.o.below L);have J1:=b9 (b0.1.below L);have b1:=b9 (HC.o.trans (Ch.of_below (D:=A) L) (fun _ f=> .inl f));clear a0 hd H0 L0 b0 R L;by_cases E:d=[]
    ·have A1:(d.length:Int)=0:=by rw[E];rfl
     have B1:((d.length:Int)==0)=true:=by rw[E];rfl
     have c:c6 (D4 P.tab ps 1 P.tab S=D4 P.tab (ps.drop (k+1)) b (t'.set q 0) S'):=by
      show _=_;rw[H.o,EB r (by rw[←HD.o];exact E),←HQ.o];simp
     obtain⟨y,hy⟩:=c7 (tn t' q);have d1: ∀x:Obj,(wr.alloc x).cell? ⟨nb,1,none⟩=some (.slice (some ⟨g,0,none⟩) t'.length F):=fun x=>(HN.o.below (a8 wr x)).c1;have d2: ∀x:Obj,(wr.alloc x).cell? ⟨g,q,none⟩=some (.int .i64 y):=fun x=>by rw[hy];exact(HN.o.below (a8 wr x)).row.cell (by have:=W0.o;have:=M.o;omega)
     have d3: ∀x:Obj,(wr.alloc x).frozen? ⟨g,q,none⟩=false:=fun x=>(HN.o.below (a8 wr x)).row.soft q;have M1:c6 (wa.heap[w.heap.size]?=some (.cells #[.int .u64 0,.slice none 0 0] 120 (0,0))):=by show _=_;rw[k1.o.block _ T0.o];exact W.o
     clear E hy A1;go_wp2_with fail;rw[←x0.o];go_roundw
     case rel=>
      refine⟨k+1,b,t'.set q 0,tk,A',D',S',r,by simp,rfl,c.o,O.o.1,by have:=O.o.2;omega,by have:=i1.o;omega,by rw[List.length_set];exact M.o,A0.o.other j.o.2 _ _,G.o,P7 b1.o (by have:=m.o.2;omega) _ _,r0.o.set q 0,j.o.1,j.o.2,?_,m.o.1,m.o.2,by have:=U.o;omega⟩;rw[l8 q _ (by have:=m.o.2;omega)];exact M1.o
     case measure=>simp[intOf];omega
    ·have y1:=List.length_pos_iff.2 E;have B1:((d.length:Int)==0)=false:=by simp;omega
     have a1:=b9 E;obtain⟨X,hX⟩:=c7 (q8 P.tab b);have HX:=b9 hX
     have N0:X≤2+P.tab.length+k:=by
      have h1:=kH (t:=P.tab) (tk:=tk) (b:=b) O.o.1;have h2:=O.o.2;rw[hX];omega
     have F1:=b9 N0
     have p1:c6 (∀x∈P.tab,x<64):=fun x f=>by
      have h1:=gE HM.o.ok.tok x f;have h2:=HM.o.dsk.good.n64;omega
     have s1:c6 (b<64):=by show _<_;have:=i1.o;have:=H8.o;omega
     have L1:=b9 A0.o.tab;have Q1:c6 (Kd P.tab (X::tk) X):=by rw[hX];exact OP O.o.1
     have d0: ∀x:Obj,(wr.alloc x).cell? ⟨pb,0,none⟩=some (.int .u64 P.gen):=fun x=>Fo (N.o.below (a8 wr x));have d1: ∀x:Obj,(wr.alloc x).cell? ⟨pb,1,none⟩=some tv:=fun x=>Hy (N.o.below (a8 wr x));have O1:c6 (wa.heap.size=wr.heap.size+1):=by show _=_;rw[x0.o];simp
     clear E y1 hX N0;go_wp2_with fail;rw[←x0.o];refine(GV P.gen L1.o p1.o s1.o).mono ?_;rw[←HX.o];rintro e B ⟨rfl,s⟩;have T1:=b9 s;have l:=b9 (A0.o.below s);have o0:=b9 (r0.o.below s);have S0:=b9 (J1.o.below s);have g1:=b9 (b1.o.trans (Ch.of_below (D:=A) s) (fun _ f=> .inl f));have F0: ¬D' wr.heap.size:=fun e=>by have:=N.o.al _ (N.o.sub _ e);omega
     have m0:B.cell? ⟨wr.heap.size,0,none⟩=some (.int .i64 q):=by rw[s.cell (p:=⟨wr.heap.size,0,none⟩) (c8 n0)];exact n0
     have m1:B.cell? ⟨wr.heap.size,1,none⟩=some (.slice uo d.length uc):=by rw[s.cell (p:=⟨wr.heap.size,1,none⟩) (c8 n1)];exact n1
     have m2:=Kr l.o;have U0:=b9 F0;have j1: ∀wx,Ch D' B wx→wx.cell? ⟨wr.heap.size,1,none⟩=some (.slice uo d.length uc):=fun wx f=>by rw[World.cell?_of_block (w:=B) (a:=⟨wr.heap.size,1,none⟩) (f.block _ (c8 m1) U0.o)];exact m1
     have j2: ∀wx,Ch D' B wx→wx.cell? ⟨pb,2,none⟩=some dv:=fun wx f=>by rw[World.cell?_of_block (w:=B) (a:=⟨pb,2,none⟩) (f.block _ (c8 m2) l.o.nb)];exact m2
     have Y0:=b9 m0;have Z0:=b9 l.o.dsk;have R0:c6 (S'.wr<9223372036854775807):=by show _<_;have:=U.o;have:=I1.o;omega
     have T:Ch D' B B.drew:=Ch.of_below (d8 _ _)
     have V0:c6 (B.heap[w.heap.size]?=some (.cells #[.int .u64 0,.slice none 0 0] 120 (0,0))):=by
      show _=_;have h1:=T0.o;have h2:=O1.o;rw[T1.o.block _ (by omega),k1.o.block _ h1];exact W.o
     have Y:c6 (∀x,D' x→A x∨w.heap.size<x):=fun x f=>G.o x (l.o.sub x f);have y0:=b9 ((Array.getElem?_eq_some_iff.1 V0.o).1);clear s d0 d1 n0 n1 m0 m1 m2 F0;by_cases I:l7 S' (X:Int) d=0
     ·have w0:=b9 I
      have c:c6 (D4 P.tab ps 1 P.tab S=D4 P.tab (ps.drop (k+1)) X (t'.set q X) (i7 S' X d)):=by
       show _=_;rw[H.o,EA r (by rw[←HD.o];exact a1.o) (by rw[←HD.o,←HX.o];exact I),←HQ.o,←HD.o,←HX.o];simp
      clear I;go_wp2_with fail
      go_region_held3 (fun wx=>Ch D' B wx) (first|assumption)
       (first
        |(go_at_call 79;refine(MR (Z0.o.below (d8 _ _)) X (S0.o.below (d8 _ _)) R0.o w0.o).mono ?_;rintro e w3 ⟨rfl,⟨D3,g0,Z⟩,h0⟩;have n:Ch D' B w3:=Ch.self (by assumption) h0))
      all_goals
       have z:c6 (∀x,D3 x→D' x∨B.heap.size≤x):=fun x f=>by rcases Z x f with e|e;exact .inl e;exact .inr (by simpa[World.drew]using e)
       have P1:=b9 (l.o.redisk g0 z.o n C6);have k0:=b9 (o0.o.ch n (fun e=>j.o.1 (l.o.sub _ e)) (fun e=>j.o.2 (l.o.sub _ e)));have R1:=b9 (g1.o.trans n (fun x f=>by rcases Y.o x f with q|q;exact .inl q;exact .inr (by omega)));have q1:=k0.o.c1;obtain⟨y,hy⟩:=c7 (tn t' q);have q2:w3.cell? ⟨g,q,none⟩=some (.int .i64 y):=by rw[hy];exact k0.o.row.cell (by have:=W0.o;have:=M.o;omega)
       have q3:=k0.o.row.soft q;have q4:w3.cell? ⟨wr.heap.size,0,none⟩=some (.int .i64 q):=by rw[World.cell?_of_block (w:=B) (a:=⟨wr.heap.size,0,none⟩) (n.block _ (c8 Y0.o) U0.o)];exact Y0.o
       have N1:c6 (w3.heap[w.heap.size]?=some (.cells #[.int .u64 0,.slice none 0 0] 120 (0,0))):=by
        show _=_;rw[n.block _ y0.o (fun e=>by rcases Y.o _ e with q|q;have:=HM.o.al _ q;omega;omega)];exact V0.o
       clear n h0 g0 Z j1 j2 T hy;go_wp2_with fail;go_roundw
      case rel=>
       refine⟨k+1,X,t'.set q X,X::tk,fun x=>A' x∨D3 x,D3,i7 S' X d,r,by simp,rfl,c.o,Q1.o,by have:=O.o.2;simp;omega,by have:=F1.o;omega,by rw[List.length_set];exact M.o,P1.o.other ?_ _ _,?_,P7 R1.o (by have:=m.o.2;omega) _ _,k0.o.set q X,?_,?_,?_,m.o.1,m.o.2,by have h1:=U.o;have h2:=dJ (S:=S') (i:=X) (b:=d);omega⟩
       ·rintro(e|e)
        ·exact j.o.2 e
        ·rcases z.o _ e with q|q
         ·exact j.o.2 (l.o.sub _ q)
         ·have:=o0.o.row.lt;omega
       ·rintro x (e|e)
        ·exact G.o x e
        ·rcases z.o _ e with q|q
         ·exact Y.o x q
         ·have:=y0.o;exact .inr (by omega)
       ·rintro(e|e)
        ·exact j.o.1 e
        ·rcases z.o _ e with q|q
         ·exact j.o.1 (l.o.sub _ q)
         ·have:=o0.o.lt;omega
       ·rintro(e|e)
        ·exact j.o.2 e
        ·rcases z.o _ e with q|q
         ·exact j.o.2 (l.o.sub _ q)
         ·have:=o0.o.row.lt;omega
       ·rw[l8 q _ (by have:=m.o.2;omega)];exact N1.o
      case measure=>simp[intOf];omega
     ·have w0:=b9 I
      have c:c6 (D4 P.tab ps 1 P.tab S=(none,i7 S' X d)):=by
       show _=_;rw[H.o,EC r (by rw[←HD.o];exact a1.o) (by rw[←HD.o,←HX.o];exact I),←HD.o,←HX.o]
      clear I;go_wp2_with fail;refine wp_region_held_drew (S:=fun wx=>Ch D' B wx) (by kernel_rfl) ?_ fun U1=>?_
      ·exact T
      refine g6 0 43 rfl (by assumption) ?_;refine g6 1 44 rfl (by assumption) ?_;refine g6 2 45 rfl (by assumption) ?_;refine g6 3 46 rfl (by assumption) ?_;refine g6 4 47 rfl (by assumption) ?_;refine g6 5 48 rfl (by assumption) ?_;refine g6 6 49 rfl (by assumption) ?_;refine C7 7 50 rfl fun K hK=>?_;go_simp;refine(wW (Z0.o.below (d8 _ _)) X (S0.o.below (d8 _ _)) R0.o w0.o).mono ?_;rintro e w3 ⟨⟨pu,pv,rfl⟩,⟨D3,g0,Z⟩,h0⟩;have n:=Ch.self T h0;have z:c6 (∀x,D3 x→D' x∨B.heap.size≤x):=fun x f=>by rcases Z x f with e|e;exact .inl e;exact .inr (by simpa[World.drew]using e)
      refine⟨rfl,fun x=>A' x∨D3 x,D3,by rw[c.o];exact l.o.redisk g0 z.o n C6,?_,g1.o.trans n (fun x f=>by rcases Y.o x f with q|q;exact .inl q;exact .inr (by omega)),?_,fun t'' ht=>by rw[c.o]at ht;(cases ht),fun _=>⟨_,_,rfl⟩⟩
      ·rintro x (e|e)
       ·rcases G.o x e with q|q
        ·exact .inl q
        ·exact .inr (by omega)
       ·rcases z.o _ e with q|q
        ·rcases Y.o x q with q|q
         ·exact .inl q
         ·exact .inr (by omega)
        ·have:=y0.o;exact .inr (by omega)
      ·rw[c.o];have h1:=U.o;have h2:=dJ (S:=S') (i:=X) (b:=d);show(i7 S' X d).wr≤_;omega
   ·have c:c6 (D4 P.tab ps 1 P.tab S=(some t',S')):=by show _=_;rw[H.o,OC (by omega)]
    have o1: ¬(k:Int)<(ps.length:Int):=by omega
    have d0:=HN.o.c0;have d1:=HN.o.c1;obtain⟨z0,z1,f0,f1⟩:=jZ W.o;go_wp2_with fail;refine bodyPost_ret (v:= .agg #[.int .u64 (P.gen+1:Nat),.slice (some ⟨g,0,none⟩) t'.length F]) (by simp[results,Tryz.results84,go_sem,z0,z1]) rfl ?_
    have G0: ¬A' w.heap.size:=fun e=>by
     rcases G.o _ e with q|q
     ·have:=HM.o.al _ q;omega
     ·omega
    refine⟨A',D',by rw[c.o];exact(N.o.other G0 _ _).other G0 _ _,fun x f=>?_,P7 (P7 HC.o (Nat.le_refl _) _ _) (Nat.le_refl _) _ _,?_,fun t'' ht=>?_,fun hn=>by rw[c.o]at hn;(cases hn)⟩
    ·rcases G.o x f with q|q
     ·exact .inl q
     ·exact .inr (by omega)
    ·rw[c.o];have:=U.o;show S'.wr≤_;omega
    ·rw[c.o]at ht
     cases ht
     have I0:g≠w.heap.size:=by have:=m.o.2;omega
     exact⟨g,F,rfl,HN.o.row.keep (by rw[l8 1 _ I0,l8 0 _ I0]),j.o.2,by have:=m.o.2;omega,M.o⟩
end
end
end Go.Proofs.YtfhoilcbhmeofaaGreat
