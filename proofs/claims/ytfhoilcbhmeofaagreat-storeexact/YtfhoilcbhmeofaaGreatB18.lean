/- What a shelf of cells answers: behind Begin, behind Apply. Nothing is walked here. -/
import Derived.Test.YtfhoilcbhmeofaaGreatB17
set_option maxRecDepth 100000
set_option maxHeartbeats 16000000
namespace Go.Proofs.YtfhoilcbhmeofaaGreat
open Go.RowKit
structure Iw(P:Bo)(S:Dk)(W:List f7):Prop where
 ok:P.ok S.bl.length
 n8:P.tab.length=7
 w8:W.length=7
 b64:S.bl.length≤64
 ov:P.over=false
 dn:S.down=false
 root:bk S.bl P.home=k9 P.gen P.tab
 oth: ∀g t,m8 (bk S.bl (1-P.home)) S.bl.length=some (g,t)→g<P.gen
 pg: ∀p,p<7→(tn P.tab p=0∧bk W p=[])∨(tn P.tab p≠0∧bk W p=bk S.bl (tn P.tab p)∧bk W p≠[])
theorem Iw.two{P:Bo}{S:Dk}{W:List f7}(h:Iw P S W):16≤S.bl.length:=by have:=h.ok.tok.2.1;have:=h.n8;omega
theorem Bp{P:Bo}{S:Dk}{W:List f7}(h:Iw P S W):O1 S 2=some P:=by
 have i:=h.two;have m:M6 (dI S 0) ((0:Nat):Int)=bk S.bl 0:=yG (S:=S) (k:=0) h.dn (Nat.lt_of_lt_of_le (by decide) i)
 have l:M6 (dI S 1) ((1:Nat):Int)=bk S.bl 1:=by
  obtain⟨a,b⟩:=Fe h.dn 1;rw[yG (k:=1) a (by rw[b];omega),b]
 have j:=uS h.ok.g1 h.ok.g40 h.ok.n8 h.b64 h.ok.tok;have d:P=⟨P.gen,P.tab,P.home,false⟩:=by obtain⟨g,t,e,ov⟩:=P;have:=h.ov;simp only at this;subst this;rfl
 show V6 (V6 none (m8 (M6 (dI S 0) ((0:Nat):Int)) S.bl.length) 0) (m8 (M6 (dI S 1) ((1:Nat):Int)) S.bl.length) 1=some P;rw[m,l];have f:=h.root;have e:=h.oth;have n:=h.ok.h2;have c:P.home=0∨P.home=1:=by omega
 rcases c with c|c
 ·rw[c]at f e;rw[f,j];rw[c]at d
  cases hq:m8 (bk S.bl 1) S.bl.length with
  |none=>exact congrArg some d.symm
  |some q=>
   obtain⟨g,t⟩:=q;have:=e g t hq;show(if P.gen<g then some (Bo.mk g t 1 false)else some (Bo.mk P.gen P.tab 0 false))=some P;rw[if_neg (by omega)];exact congrArg some d.symm
 ·rw[c]at f e;rw[f,j];rw[c]at d
  cases hq:m8 (bk S.bl 0) S.bl.length with
  |none=>exact congrArg some d.symm
  |some q=>
   obtain⟨g,t⟩:=q;have:=e g t hq;show(if g<P.gen then some (Bo.mk P.gen P.tab 1 false)else some (Bo.mk g t 0 false))=some P;rw[if_pos this];exact congrArg some d.symm
theorem Iw.turn{P:Bo}{S S':Dk}{W:List f7}(h:Iw P S W)(hd:S'.down=false)(hl:S'.bl.length=S.bl.length)(hk: ∀x,x∈P.tab∨x<2→bk S'.bl x=bk S.bl x):Iw P S' W:=by
 have f:=h.ok.h2;refine⟨by rw[hl];exact h.ok,h.n8,h.w8,by rw[hl];exact h.b64,h.ov,hd,by rw[hk _ (.inr (by omega))];exact h.root,fun g t e=>h.oth g t (by rw[hk _ (.inr (by omega)),hl]at e;exact e),fun p d=>?_⟩;rcases h.pg p d with q|⟨a,b,c⟩
 ·exact .inl q
 ·exact .inr ⟨a,by rw[hk _ (.inl (jU (by rw[h.n8];exact d)))];exact b,c⟩
theorem Iw.shut{P:Bo}{S:Dk}{W:List f7}(h:Iw P S W):i6 P S=false:=by unfold i6;rw[h.ov,h.dn];rfl
theorem yP{P:Bo}{S:Dk}{W:List f7}{ps:List (Int × f7)}(h:Iw P S W)(hL:UB 7 ps)(hp:ps≠[])(hg:P.gen<1099511627776):
  (∃P' S',A5 P S ps=(0,P',S')∧Iw P' S' (oU W ps)∧P'.gen=P.gen+1∧P'.home=1-P.home∧S'.wr=S.wr+uD ps+1∧S'.rd=S.rd∧(∀x,(x∈P.tab∧x≠0)∨x=P.home→bk S'.bl x=bk S.bl x)∧S'.bl.length=S.bl.length∧(S.left= -1→S'.left= -1))∨
  (∃S',A5 P S ps=(80,J6 P,S')∧S'.down=true∧Iw P (WZ S') W∧S.left≠ -1∧S'.rd=S.rd∧S'.wr≤S.wr+8):=by
 have s:=h.shut;have z:UB P.tab.length ps:=by rw[h.n8];exact hL
 have y:x9 P.tab.length ps=0:=FF ps [] z (fun _ _=>by simp);have a0: ∀x∈P.tab,x<64:=fun x l=>by have h1:=gE h.ok.tok x l;have h2:=h.b64;omega
 have b0:=h.two;have hh:=h.ok.h2;rcases Cu h.ok.tok a0 ps [] P.tab [] 1 S (LC.start h.ok.tok h.dn) (by rw[List.nil_append];exact z) (by simp;exact aX z)with ⟨t,tk,b,k,m,d⟩|⟨k,tk,m,Z,j,A,O,Y,Q,M⟩
 ·rw[List.nil_append]at d;have E:=d.li.tok h.ok.tok;have N:t.length=7:=by rw[d.li.len,h.n8]
  have C:(k9 (P.gen+1) t).length≤1024:=Nat.le_trans (bN (by omega)) (by omega);have w:1-P.home<k.bl.length:=by rw[d.len];omega
  have f: ∀x,x∈tk→2≤x∧x∉P.tab:=fun x l=>⟨(d.li.tk2 x l).1,(d.li.tk2 x l).2.2.2⟩;by_cases v:k.left=0
  ·obtain⟨H,G⟩:=uI d.dn w v C;refine .inr ⟨mG k,by rw[yQ s y hp (by omega) m (by rw[H];omega),G],rfl,?_,fun e=>by rw[d.lf e]at v;omega,d.rd,?_⟩
   ·refine h.turn rfl d.len (fun x l=>d.keep x (fun e=>?_));have:=f x e;rcases l with q|q
    ·exact this.2 q
    ·omega
   ·have h1:=d.wr;have h2:=d.cnt;have h3:uD ps≤ps.length:=List.length_filter_le _ _;have h4:=aX hL;show k.wr≤_;omega
  ·obtain⟨H,G⟩:=lC d.dn w v C;have T:(Bo.mk (P.gen+1) t (1-P.home) P.over).ok S.bl.length:=⟨by show 1≤P.gen+1;omega,by show P.gen+1≤_;omega,by show t.length≤8;omega,E,by show 1-P.home≤1;omega⟩;have j:(M7 k (1-P.home) (k9 (P.gen+1) t)).bl.length=S.bl.length:=by show(k.bl.set _ _).length=_;rw[List.length_set];exact d.len
   have n: ∀x,x≠1-P.home→bk (M7 k (1-P.home) (k9 (P.gen+1) t)).bl x=bk k.bl x:=fun x l=>by
    show bk (k.bl.set _ _) x=_;by_cases B:x<k.bl.length
    ·rw[cF B,if_neg (fun e=>l e.symm)]
    ·unfold bk;rw[List.getD_eq_getElem?_getD,List.getElem?_eq_none (by simpa using B),List.getD_eq_getElem?_getD,List.getElem?_eq_none (by omega)]
   have D: ∀x,x∈P.tab→x≠0→x≠1-P.home:=fun x l h0 e=>by
    obtain⟨i,hi,K⟩:=List.getElem_of_mem l;have h3:=(pY.1 h.ok.tok).2.2.1 i hi;rw[aA hi,K]at h3;omega
   refine .inl ⟨⟨P.gen+1,t,1-P.home,P.over⟩,M7 k (1-P.home) (k9 (P.gen+1) t),by rw[KJ s y hp (by omega) m H,G],?_,rfl,rfl,?_,d.rd,?_,j,fun e=>by show bB k.left= -1;rw[d.lf e];rfl⟩
   ·refine⟨by rw[j];exact T,N,by rw[qP];exact h.w8,by rw[j];exact h.b64,h.ov,d.dn,?_,fun g t' hg=>?_,fun p o=>?_⟩
    ·show bk (k.bl.set _ _) (1-P.home)=_;rw[cF w,if_pos rfl]
    ·show g<P.gen+1;have L:1-(1-P.home)=P.home:=by omega
     rw[show(Bo.mk (P.gen+1) t (1-P.home) P.over).home=1-P.home from rfl,L,n P.home (by omega),d.keep P.home (fun e=>by have:=(f _ e).1;omega),j,h.root,uS h.ok.g1 h.ok.g40 h.ok.n8 h.b64 h.ok.tok]at hg;simp only[Option.some.injEq,Prod.mk.injEq]at hg;omega
    ·show(tn t p=0∧_)∨(tn t p≠0∧_);by_cases u:(p:Int)∈ps.map (·.1)
     ·obtain⟨q,hq,e⟩:=List.mem_map.1 u;have R:q.1.toNat=p:=by omega
      have F:=wY ps W q hq (fun r I=>by have:=hL.pg r I;have:=h.w8;exact⟨by omega,by omega⟩) hL.nd;have J:=d.pg q hq;rw[R]at F J;by_cases hd:q.2=[]
      ·exact .inl ⟨J.1 hd,by rw[F];exact hd⟩
      ·obtain⟨a,c⟩:=J.2 hd;have:=f _ a;have X:tn t p≠0:=by omega
       refine .inr ⟨X,?_,by rw[F];exact hd⟩;have U:tn t p≠1-P.home:=by omega
       rw[F];show q.2=bk _ (tn t p);rw[n _ U];exact c.symm
     ·have L:=d.oth p (by rw[h.n8];exact o) u;have K:=lG ps W (by rw[h.w8];exact o) (fun r I=>(hL.pg r I).1) u;rw[L,K];have hm:=jU (by rw[h.n8];exact o);rcases h.pg p o with q|⟨a,b',c⟩
      ·exact .inl q
      ·refine .inr ⟨a,?_,c⟩;rw[b',n _ (D _ hm a),d.keep _ (fun e=>(f _ e).2 hm)]
   ·show k.wr+1=_;rw[d.wr,d.cnt]
   ·intro x l;rcases l with ⟨q,h0⟩|q
    ·rw[n x (D _ q h0),d.keep x (fun e=>(f _ e).2 q)]
    ·subst q;rw[n _ (by omega),d.keep _ (fun e=>by have:=(f _ e).1;omega)]
 ·refine .inr ⟨k,yO s y hp (by omega) m,Z,?_,Y,Q,by rw[h.n8]at M;omega⟩;refine h.turn rfl j (fun x l=>A x (fun e=>?_));have:=O x e;rcases l with q|q
  ·exact this.2 q
  ·omega
theorem Iw.rdd{P:Bo}{S S':Dk}{W:List f7}{j:Nat}(h:Iw P S W)(hr:F0 j S S'):Iw P S' W:=h.turn (by rw[hr.dn];exact h.dn) (by rw[hr.bl]) (fun x _=>by rw[hr.bl])
theorem Iw.get{P:Bo}{S:Dk}{W:List f7}(h:Iw P S W){p:Nat}(hp:p<7):A0 P S (p:Int)=bk W p:=by
 unfold A0;rw[if_neg (by rw[h.shut];simp),if_neg (by unfold fV;rw[h.n8];simp;omega),Int.toNat_natCast];rcases h.pg p hp with ⟨a,b⟩|⟨a,b,c⟩
 ·rw[if_pos a,b]
 ·rw[if_neg a,yG h.dn (gE h.ok.tok _ (jU (by rw[h.n8];exact hp))),b]
section
def T6(kind b:Int):List (List Cl)→List Pr→Int × List (List Cl)
 |Ls,[]=>(0,Ls)
 |Ls,p::r=>if(M5 kind b Ls p.k p.v).1≠0 then M5 kind b Ls p.k p.v else T6 kind b (M5 kind b Ls p.k p.v).2 r
theorem IF{kind b:Int}{Ls:List (List Cl)}{l:List Pr}{i:Nat}(hi:i<l.length)(h:(M5 kind b Ls l[i].k l[i].v).1≠0):T6 kind b Ls (l.drop i)=M5 kind b Ls l[i].k l[i].v:=by
 rw[List.drop_eq_getElem_cons hi,T6,if_pos h]
theorem PK{kind b:Int}{Ls:List (List Cl)}{l:List Pr}{i:Nat}(hi:i<l.length)(h:(M5 kind b Ls l[i].k l[i].v).1=0):T6 kind b Ls (l.drop i)=T6 kind b (M5 kind b Ls l[i].k l[i].v).2 (l.drop (i+1)):=by
 rw[List.drop_eq_getElem_cons hi,T6,if_neg (fun e=>e h)]
theorem wQ{c:Cl}(h:c.ok)(b:Int):(I6 c b).ok:=by unfold I6;split;exact h.2;exact h.1
theorem ZK{kind b:Int}{c:Cl}{v:Vl}(hc:c.okB)(hv:v.ok)(hb: -9223372036854775808≤b∧b<9223372036854775808):(N2 kind c b v).okB:=by
 unfold N2;have a:c.ok:=⟨hc.2.1,hc.2.2.1⟩
 split
 ·exact⟨hc.1,wQ a b,SX kind (wQ a b) hv,hb.1,hb.2⟩
 ·exact⟨by show(0:Nat)<_;omega,by show(0:Nat)<_;omega,by show(0:Nat)<_;omega,by show _≤(0:Int);omega,by show(0:Int)<_;omega⟩
theorem WM{l:List Cl}{c:Cl}(hl: ∀d∈l,d.okB)(hn:l.length≤16)(hc:c.okB)(h:(I7 l c).2=0):(∀d∈(I7 l c).1,d.okB)∧(I7 l c).1.length≤16:=by
 unfold I7 at h⊢
 split
 ·simp
 ·split
  ·rename_i a
   obtain⟨b,_⟩:=OE a;refine⟨fun d hd=>?_,by simp;omega⟩;simp only[List.mem_append,List.mem_singleton]at hd;rcases hd with hd|hd|hd
   ·exact hl d (List.mem_of_mem_take hd)
   ·subst hd;exact hc
   ·exact hl d (List.mem_of_mem_drop hd)
  ·split
   ·simp
   ·refine⟨fun d hd=>?_,by simp;omega⟩;simp only[List.mem_append,List.mem_singleton]at hd;rcases hd with hd|hd|hd
    ·exact hl d (List.mem_of_mem_take hd)
    ·subst hd;exact hc
    ·exact hl d (List.mem_of_mem_drop hd)
theorem BF{Ls:List (List Cl)}{k i:Nat}{c:Cl}(hp:MM Ls)(hk:k<18446744073709551616)(h:M4 Ls k=some (i,c)):i<6∧c.okB:=by
 unfold M4 at h
 split at h
 ·rename_i j a
  cases h
  have b:=eS 6 0 a;obtain⟨d,_⟩:=mZ b.2.2;refine⟨by omega,?_⟩;unfold dC;simp only[List.getD_eq_getElem?_getD,List.getElem?_eq_getElem d,Option.getD_some];exact hp.2.1 _ (by omega) _ (List.getElem_mem _)
 ·split at h
  ·rename_i j a
   cases h
   have b:=eS 6 0 a;exact⟨by omega,hk,by show(0:Nat)<_;omega,by show(0:Nat)<_;omega,by show _≤(0:Int);omega,by show(0:Int)<_;omega⟩
  ·cases h
theorem nY{kind b:Int}{Ls:List (List Cl)}{k:Nat}{v:Vl}(hp:MM Ls)(hk:k<18446744073709551616)(hv:v.ok)(hb: -9223372036854775808≤b∧b<9223372036854775808)(h:(M5 kind b Ls k v).1=0):MM (M5 kind b Ls k v).2:=by
 unfold M5 at h⊢
 split
 ·exact hp
 ·rename_i i c d
  obtain⟨f,l⟩:=BF hp hk d;rw[d]at h;simp only at h;by_cases g:Z1 kind c b=0
  ·rw[if_neg (fun e=>e g)]at h⊢;unfold uR at h⊢;have m:(I7 (B3 Ls i) (N2 kind c b v)).2=0:=by simp only at h;omega
   obtain⟨o,n⟩:=WM (hp.2.1 i f) (hp.2.2 i f) (ZK (kind:=kind) l hv hb) m;refine⟨by simp[hp.1],fun j a=>?_,fun j a=>?_⟩
   ·rw[mC (by rw[hp.1];exact a)]
    split
    ·exact o
    ·exact hp.2.1 j a
   ·rw[mC (by rw[hp.1];exact a)]
    split
    ·exact n
    ·exact hp.2.2 j a
  ·rw[if_pos g];exact hp
theorem uY{D:n9}{w w':d9}{v:Value}{l:List Pr}(h:Qv w v l)(hc:Ch D w w')(hd:l≠[]→ ∀x,v.ownBlock=some x→ ¬D x):Qv w' v l:=by
 obtain⟨⟨s,d,e,o,n,m,k⟩,j⟩:=h;refine⟨⟨s,d,e,o,n,m,fun i f=>?_⟩,j⟩;obtain⟨b,c,g,r,q,p⟩:=k i f;have a:=hd (by rintro rfl;simp at f) b (by rw[e,g];rfl);exact⟨b,c,g,hc.cell r a,hc.cell q a,hc.cell p a⟩
theorem NM{w:d9}{v:Value}{l:List Pr}(h:Qv w v l)(hl:l≠[]){x:Nat}(hx:v.ownBlock=some x):x<w.heap.size:=by
 obtain⟨⟨n,g,e,m,k,j,a⟩,i⟩:=h;obtain⟨b,f,d,c,_⟩:=a 0 (by cases l with|nil=>exact absurd rfl hl|cons _ _=>simp);subst d;subst e
 cases hx
 exact c8 c
def eK(m:Mk)(kind b a:Int)(Ls:List (List Cl))(l:List Pr):Option Int:=
 if B6 b a=false∨Q9 kind l=false then some 1
 else if M9 m.b m.a b a≠0 then some ((M9 m.b m.a b a:Nat):Int)
 else if U5 m.k l=false then some 132
 else if(T6 kind b Ls l).1≠0 then some (T6 kind b Ls l).1 else none
def qH(kind b:Int)(Ls:List (List Cl))(l:List Pr):List (Int × f7):=aH Ls (T6 kind b Ls l).2 6
theorem tF{m:Mk}{kind b a:Int}{Ls:List (List Cl)}{l:List Pr}(h:B6 b a=false∨Q9 kind l=false):eK m kind b a Ls l=some 1:=by unfold eK;rw[if_pos h]
theorem ZM{m:Mk}{kind b a:Int}{Ls:List (List Cl)}{l:List Pr}(h: ¬(B6 b a=false∨Q9 kind l=false))(hj:M9 m.b m.a b a≠0):eK m kind b a Ls l=some ((M9 m.b m.a b a:Nat):Int):=by unfold eK;rw[if_neg h,if_pos hj]
theorem ZL{m:Mk}{kind b a:Int}{Ls:List (List Cl)}{l:List Pr}(h: ¬(B6 b a=false∨Q9 kind l=false))(hj:M9 m.b m.a b a=0)(ht:U5 m.k l=false):eK m kind b a Ls l=some 132:=by unfold eK;rw[if_neg h,if_neg (fun e=>e hj),if_pos ht]
theorem PL{m:Mk}{kind b a:Int}{Ls:List (List Cl)}{l:List Pr}(h: ¬(B6 b a=false∨Q9 kind l=false))(hj:M9 m.b m.a b a=0)(ht:U5 m.k l=true)(hr:(T6 kind b Ls l).1≠0):eK m kind b a Ls l=some (T6 kind b Ls l).1:=by unfold eK;rw[if_neg h,if_neg (fun e=>e hj),if_neg (by rw[ht];simp),if_pos hr]
theorem MK{m:Mk}{kind b a:Int}{Ls:List (List Cl)}{l:List Pr}(h: ¬(B6 b a=false∨Q9 kind l=false))(hj:M9 m.b m.a b a=0)(ht:U5 m.k l=true)(hr:(T6 kind b Ls l).1=0):eK m kind b a Ls l=none:=by unfold eK;rw[if_neg h,if_neg (fun e=>e hj),if_neg (by rw[ht];simp),if_neg (fun e=>e hr)]
section

variable{A:n9}{w w1:d9}{sv dv:Value}{k:Int}{P:Bo}{S:Dk}{sp:Nat}

theorem ST.kind(h:ST A w (.pointer (some ⟨sp,0,none⟩)) dv k P S):w.cell? ⟨sp,1,none⟩=some (.int .i64 k):=by
 obtain⟨sp',f,e,a,d,c,b⟩:=h
 cases e
 rw[cell_of_row w sp 1 _ _ (0,0) a];rfl
theorem ST.book(h:ST A w (.pointer (some ⟨sp,0,none⟩)) dv k P S): ∃pb,w.cell? ⟨sp,0,none⟩=some (.pointer (some ⟨pb,0,none⟩)):=by
 obtain⟨sp',f,e',a,d,⟨D,pb,e,b,_⟩,c⟩:=h
 cases e'
 exact⟨pb,by rw[cell_of_row w sp 0 _ _ (0,0) a,b];rfl⟩
def Ml(A:n9)(w:d9)(sv dv:Value)(k:Int)(P:Bo)(S:Dk)(m:Mk)(Ls:List (List Cl))(b a:Int)(l:List Pr)(e:Ending)(w':d9):Prop:=
 (i6 P S=true∧ ∃S',e= .returned (.int .i64 80)∧ST A w' sv dv k (J6 P) S'∧F0 8 S S'∧Ch A w w')∨
 (i6 P S=false∧ ∃c S',eK m k b a Ls l=some c∧e= .returned (.int .i64 c)∧ST A w' sv dv k P S'∧F0 8 S S'∧Ch A w w')∨
 (i6 P S=false∧eK m k b a Ls l=none∧ ∃S' A',F0 8 S S'∧e= .returned (.int .i64 (A5 P S' (qH k b Ls l)).1)∧ST A' w' sv dv k (A5 P S' (qH k b Ls l)).2.1 (A5 P S' (qH k b Ls l)).2.2∧(∀x,A' x→A x∨w.heap.size≤x)∧Ch A w w')
def Nn(w9:d9)(T13:Nat)(k b:Int)(Ls:List (List Cl))(l:List Pr)(iv:Value)(wr:d9):Prop:=
 ∃(i:Nat) (Lc:List (List Cl)) (g:Nat→Value),iv= .int .i64 i∧i≤l.length∧T6 k b Ls l=T6 k b Lc (l.drop i)∧MM Lc∧SH wr T13 g Lc∧Ch (fun x=>x=T13) w9 wr
theorem iI(h:ST A w sv dv k P S){m:Mk}{Ls:List (List Cl)}(hM:i6 P S=false→B7 (A0 P S 0)=(m,0))(hD:i6 P S=false→C8 P S 6=some Ls)(hrd:S.rd<4611686018427387000)(hwr:S.wr<4611686018427387000){tv:Value}{l:List Pr}(hq:Qv w tv l)(hqA:l≠[]→ ∀x,tv.ownBlock=some x→ ¬A x)(b a:Int):
  Calls Tryz.prog 26 #[sv,.int .i64 b,.int .i64 a,tv] w (Ml A w sv dv k P S m Ls b a l):=by
 have HM:=b9 hM;have HD:=b9 hD;have r2:=b9 hrd;have v3:=b9 hwr;have I3:=b9 h.ok.1;have P3:=b9 h.b64;have M3:=b9 (sK h);obtain⟨sp,j3,X1,k3⟩:=h.ptr;subst j3;have j0:c6 (∀x,A x→x<w.heap.size):=fun x hx=>h.lt hx;have g1:=b9 X1;have A3:=b9 h;have z2:=b9 hq;have A2:=b9 hqA;have G2:=b9 hq.2;obtain⟨ta,tc,V1,i3,W1⟩: ∃ta tc,tv= .slice ta l.length tc∧l.length≤tc∧tc≤maxLen:=by obtain⟨⟨ta,tc,e,N,s,_⟩,_⟩:=hq;exact⟨ta,tc,e,N,s⟩
 obtain⟨n,hn⟩:=c7 l.length;rw[←hn]at V1;subst V1;have HN:=b9 hn;have S3:(n:Int)≤9223372036854775807:=by unfold maxLen at W1;omega
 clear h hM hD hrd hwr hq hqA X1 k3 hn i3 W1;go_in;go_wp2_with fail;refine(X6 A3.o (by have:=r2.o;omega)).mono ?_;rintro e w1 ⟨c,m',ov,S1,rfl,v0,hcase,hst1,U,Y⟩
 cases hs:i6 P S
 rotate_left
 ·have hc:c=80∧m'=C1:=by
   rcases hcase with ⟨N,_,h3⟩|⟨_,s,_⟩|⟨_,s,_⟩
   ·exact⟨N,h3⟩
   ·rw[hs]at s;cases s
   ·rw[hs]at s;cases s
  obtain⟨rfl,rfl⟩:=hc;have HS:=b9 hs;have S0:c6 (ST A w1 (.pointer (some ⟨sp,0,none⟩)) dv k (J6 P) S1):=by have h:=hst1;unfold fW at h;rw[if_pos hs]at h;exact h
  have M:=b9 U;have Y0:=b9 Y;obtain⟨oa,on,oc,r1⟩: ∃x y z,ov= .slice x y z:=by obtain⟨x,z,e⟩:=y9 v0;exact⟨x,_,z,e⟩
  subst r1;clear v0 hcase hst1 U Y hs;go_wp2_with fail;go_ret;exact .inl ⟨HS.o,S1,rfl,S0.o.below (a8 _ _),M.o.mono (by omega),Y0.o.self (Ch.of_below (a8 _ _))⟩
 have HS:=b9 hs
 have hc:c=0∧m'=m:=by
  rcases hcase with ⟨_,s,_⟩|⟨_,_,s,_⟩|⟨N,_,s⟩
  ·rw[hs]at s;cases s
  ·rw[HM.o hs]at s;exact absurd rfl s
  ·rw[HM.o hs]at s;cases s;exact⟨N,rfl⟩
 obtain⟨rfl,rfl⟩:=hc;rw[F5 hs]at hst1;have S0:=b9 hst1;have M:=b9 U;have Y0:=b9 Y;have K2:=b9 (z9 v0);have D2:=b9 (uY z2.o Y A2.o);obtain⟨oa,on,oc,r1⟩: ∃x y z,ov= .slice x y z:=by obtain⟨x,z,e⟩:=y9 v0;exact⟨x,_,z,e⟩
 subst r1;clear v0 hcase hst1 U Y hs;go_upto_region 2 with fail
 have D:c6 (f8 w1 (w1.alloc (Obj.cells #[.int .i64 m'.b,.int .i64 m'.a,.slice oa on oc] 62))):=a8 _ _;have V0:c6 _:=A9 w1 m'.b m'.a (.slice oa on oc);generalize w1.heap.size=T9 at V0⊢;generalize w1.alloc (Obj.cells #[.int .i64 m'.b,.int .i64 m'.a,.slice oa on oc] 62)=w2 at D V0⊢;have f0:=b9 (S0.o.below D.o);have R1:=b9 (Y0.o.self (Ch.of_below D.o));have J2:=b9 (K2.o.below D.o);have L1:=b9 (D2.o.below D.o);clear S0 Y0 K2 D2 D;obtain⟨C,hC⟩:=c7 (B6 b a);have X0:c6 (C=B6 b a):=hC;clear hC;go_wp2_with fail;refine(wJ b a _).mono ?_;rw[←X0.o];rintro e w3 ⟨rfl,o1⟩;replace o1:=o1.symm;subst o1
 cases C
 ·have G:c6 (eK m' k b a Ls l=some 1):=tF (.inl X0.o.symm);go_wp2_with fail;go_ret;exact .inr (.inl ⟨HS.o,1,S1,G.o,rfl,f0.o,M.o.mono (by omega),R1.o⟩)
 obtain⟨R,hR⟩:=c7 (Q9 k l);have I1:c6 (R=Q9 k l):=hR;have k0:=f0.o.kind;clear hR;go_wp2_with fail;refine(TM L1.o k).mono ?_;rw[←I1.o];rintro e w3 ⟨rfl,O⟩;have z0:=b9 (f0.o.below O);have W:=b9 (R1.o.self (Ch.of_below O));have I2:=b9 (J2.o.below O);have C2:=b9 (L1.o.below O);have Q:c6 _:=V0.o.keep O;clear O f0 R1 J2 L1 V0 k0
 cases R
 ·have G:c6 (eK m' k b a Ls l=some 1):=tF (.inr I1.o.symm);go_wp2_with fail;go_ret;exact .inr (.inl ⟨HS.o,1,S1,G.o,rfl,z0.o,M.o.mono (by omega),W.o⟩)
 have W0:c6 (¬(B6 b a=false∨Q9 k l=false)):=by
  rintro(h|h)
  ·rw[←X0.o]at h;cases h
  ·rw[←I1.o]at h;cases h
 have O3:c6 (-9223372036854775808≤b∧b<9223372036854775808):=by
  have h:=X0.o;unfold B6 at h;simp at h;show _∧_;omega
 obtain⟨J,hJ⟩:=c7 (M9 m'.b m'.a b a);have HJ:c6 (J=M9 m'.b m'.a b a):=hJ;clear hJ;have y0:=Q.o.c0;have y1:=Q.o.c1;have y2:=Q.o.c2;go_wp2_with fail;refine(sG m'.b m'.a b a _).mono ?_;rw[←HJ.o];rintro e w4 ⟨rfl,l0⟩;have D1:=b9 (z0.o.below l0);have Q1:=b9 (W.o.self (Ch.of_below l0));have H2:=b9 (I2.o.below l0);have K1:=b9 (C2.o.below l0);have U0:c6 _:=Q.o.keep l0;clear l0 z0 W I2 C2 Q y0 y1 y2;by_cases t1:J=0;rotate_left
 ·have T3:((J:Int) !=0)=true:=by rw[bne_iff_ne];omega
  have G:c6 (eK m' k b a Ls l=some ((J:Nat):Int)):=by show _=_;rw[HJ.o];exact ZM W0.o (by rw[←HJ.o];exact t1)
  clear t1;go_wp2_with fail;go_ret;exact .inr (.inl ⟨HS.o,J,S1,G.o,rfl,D1.o,M.o.mono (by omega),Q1.o⟩)
 subst t1;have y0:=U0.o.c0;have y1:=U0.o.c1;have y2:=U0.o.c2;obtain⟨T,hT⟩:=c7 (U5 m'.k l);have R0:c6 (T=U5 m'.k l):=hT;clear hT;go_wp2_with fail;refine(xD K1.o H2.o m'.b m'.a).mono ?_;rw[←R0.o];rintro e w5 ⟨rfl,Q0⟩;have B1:=b9 (D1.o.below Q0);have P1:=b9 (Q1.o.self (Ch.of_below Q0));have B2:=b9 (K1.o.below Q0);clear Q0 D1 Q1 H2 K1 U0 y0 y1 y2
 cases T
 ·have G:c6 (eK m' k b a Ls l=some 132):=ZL W0.o HJ.o.symm R0.o.symm;go_wp2_with fail;go_ret;exact .inr (.inl ⟨HS.o,132,S1,G.o,rfl,B1.o,M.o.mono (by omega),P1.o⟩)
 have H1:c6 (i6 P S1=false):=by show _=_;rw[C3 M.o];exact HS.o
 have N1:c6 (C8 P S1 6=some Ls):=by show _=_;rw[dR M.o];exact HD.o HS.o
 have T0:=b9 (nC (HD.o HS.o) M3.o);go_wp2_with fail;refine(cD B1.o (by have N:=M.o.rd;have s:=r2.o;omega)).mono ?_;rintro e w7 ⟨c,f,S7,rfl,u,m3,hcase,hst7,M0,H0⟩;rw[F5 H1.o]at hst7
 have o3:c=0∧ ∀j,j<6→Cv w7 (f j) (B3 Ls j):=by
  rcases hcase with ⟨_,s⟩|⟨_,_,s⟩|⟨N,_,L',s,h3⟩
  ·rw[H1.o]at s;cases s
  ·rw[N1.o]at s;cases s
  ·rw[N1.o]at s;cases s;exact⟨N,h3⟩
 obtain⟨rfl,g2⟩:=o3;have z3:=b9 hst7;have J1:c6 (F0 8 S S7):=(M.o.trans M0).mono (by omega);have N2:=b9 (P1.o.self H0);have o2:=b9 g2;have H3:=b9 (uY B2.o H0 A2.o);obtain⟨a0,n0,p0,e0⟩:=u 0 (by omega);obtain⟨a1,n1,p1,e1⟩:=u 1 (by omega);obtain⟨a2,n2,p2,e2⟩:=u 2 (by omega);obtain⟨a3,n3,p3,e3⟩:=u 3 (by omega);obtain⟨a4,n4,p4,e4⟩:=u 4 (by omega);obtain⟨a5,n5,p5,e5⟩:=u 5 (by omega);have HE:c6 (f 0= .slice a0 n0 p0∧f 1= .slice a1 n1 p1∧f 2= .slice a2 n2 p2∧f 3= .slice a3 n3 p3∧f 4= .slice a4 n4 p4∧f 5= .slice a5 n5 p5):=⟨e0,e1,e2,e3,e4,e5⟩;rw[e0,e1,e2,e3,e4,e5];clear u m3 hcase hst7 M0 H0 g2 e0 e1 e2 e3 e4 e5 B1 P1 B2 H1 N1;go_upto_region 12 with fail
 have r0:c6 (f8 w7 (w7.alloc (Obj.cells #[.slice a0 n0 p0,.slice a1 n1 p1,.slice a2 n2 p2,.slice a3 n3 p3,.slice a4 n4 p4,.slice a5 n5 p5] 84))):=a8 _ _;have L:c6 (SH (w7.alloc (Obj.cells #[.slice a0 n0 p0,.slice a1 n1 p1,.slice a2 n2 p2,.slice a3 n3 p3,.slice a4 n4 p4,.slice a5 n5 p5] 84)) w7.heap.size f Ls):=by have h:=gI w7 f T0.o.1 o2.o;obtain⟨e0,e1,e2,e3,e4,e5⟩:=HE.o;rw[e0,e1,e2,e3,e4,e5]at h;exact h
 obtain⟨d0,J0⟩:=c7 w7.heap.size;rw[←J0]at L⊢;have W2:=b9 J0;clear J0;generalize w7.alloc (Obj.cells #[.slice a0 n0 p0,.slice a1 n1 p1,.slice a2 n2 p2,.slice a3 n3 p3,.slice a4 n4 p4,.slice a5 n5 p5] 84)=w8 at r0 L⊢;have s0:=L.o.c 0 (by omega);rw[HE.o.1]at s0;have s1:=L.o.c 1 (by omega);rw[HE.o.2.1]at s1;have s2:=L.o.c 2 (by omega);rw[HE.o.2.2.1]at s2;have s3:=L.o.c 3 (by omega);rw[HE.o.2.2.2.1]at s3;have s4:=L.o.c 4 (by omega);rw[HE.o.2.2.2.2.1]at s4;have s5:=L.o.c 5 (by omega);rw[HE.o.2.2.2.2.2]at s5;go_upto_region 15 with fail
 clear s0 s1 s2 s3 s4 s5;have o0:c6 (f8 w8 (w8.alloc (Obj.cells #[.slice a0 n0 p0,.slice a1 n1 p1,.slice a2 n2 p2,.slice a3 n3 p3,.slice a4 n4 p4,.slice a5 n5 p5] 84))):=a8 _ _;have G1:c6 (SH (w8.alloc (Obj.cells #[.slice a0 n0 p0,.slice a1 n1 p1,.slice a2 n2 p2,.slice a3 n3 p3,.slice a4 n4 p4,.slice a5 n5 p5] 84)) w8.heap.size f Ls):=by have h:=gI w8 f T0.o.1 (fun j hj=>(o2.o j hj).below r0.o);obtain⟨e0,e1,e2,e3,e4,e5⟩:=HE.o;rw[e0,e1,e2,e3,e4,e5]at h;exact h
 obtain⟨F,I0⟩:=c7 w8.heap.size;rw[←I0]at G1⊢;have f1:=b9 I0;clear I0;generalize w8.alloc (Obj.cells #[.slice a0 n0 p0,.slice a1 n1 p1,.slice a2 n2 p2,.slice a3 n3 p3,.slice a4 n4 p4,.slice a5 n5 p5] 84)=w9 at o0 G1⊢;have V2:=b9 (z3.o.below (a9 r0.o o0.o));have G3:=b9 (H3.o.below (a9 r0.o o0.o));have L3:=b9 (N2.o.self (Ch.of_below (a9 r0.o o0.o)));have d1:c6 (w.heap.size≤w7.heap.size∧w7.heap.size≤w8.heap.size∧d0<w8.heap.size):=⟨N2.o.size,r0.o.size,L.o.lt⟩;have U1:c6 (w.heap.size≤d0):=by have N:=W2.o;have s:=d1.o.1;show _≤_;omega
 have E:c6 (w.heap.size≤F∧d0<F):=by have N:=f1.o;have s:=d1.o;exact⟨by omega,by omega⟩
 have v2:c6 (Nn w9 F k b Ls l (.int .i64 0) w9):=⟨0,Ls,f,rfl,by omega,rfl,T0.o,G1.o,Ch.refl _ _⟩;have L0:c6 (¬sp=F):=by have N:=g1.o;have s:=E.o.1;show¬_;omega
 go_wp2_with fail;go_loopw [60] (fun iv wr=>Nn w9 F k b Ls l iv wr) (fun iv _=>n-(intOf iv).toNat)
 case atStart=>exact v2.o
 case round=>
  clear v2;obtain⟨i,Lc,g,rfl,hi,b1,Z1,Y1,P0⟩:=hrel;have T1:=b9 b1;have i0:=b9 Z1;have F1:=b9 Y1;have O1:=b9 P0;have w0:=b9 (V2.o.high P0 (fun x hx e=>by have N:=j0.o x hx;have s:=E.o.1;omega) L0.o);have D0:=b9 (L3.o.trans P0 (fun x hx=>by subst hx;exact .inr E.o.1));clear b1 Z1 Y1 P0;by_cases d2:i<n
  ·have S2:(i:Int)<(n:Int):=by omega
   have Q3:=decide_eq_true d2;have O0:i<l.length:=by have:=HN.o;omega
   have F3:=b9 (uY G3.o O1.o (fun hl x hx e=>by have N:=NM z2.o hl hx;have s:=E.o.1;omega));obtain⟨b0,R3,e0,m0,m1,m2⟩:=F3.o.ql i O0;subst e0;obtain⟨p,hp⟩:=c7 (l[i]);rw[←hp]at m0 m1 m2;have HP:=b9 hp;have F2:c6 p.v.ok:=by rw[hp];exact(G2.o _ (List.getElem_mem _)).2
   have b3:c6 (p.k<18446744073709551616):=by rw[hp];exact(G2.o _ (List.getElem_mem _)).1
   clear hp;go_upto_region 18 with fail
   clear m0 m1 m2;have B0:c6 _:=yN wr p.k p.v;have D:c6 (f8 wr (wr.alloc (Obj.cells #[.int .u64 p.k,.bool p.v.h,.int .u64 p.v.b] 57))):=a8 _ _;have K0:c6 (¬wr.heap.size=F):=by have N:=F1.o.lt;show¬_;omega
   have h0:=b9 ((F1.o.below D.o).below (d8 _ 1));have L2:=b9 ((w0.o.below D.o).kind);have f0:=b9 (w0.o.below D.o);have k1:=b9 (O1.o.self (Ch.of_below D.o));have j1:=b9 (D0.o.self (Ch.of_below D.o));obtain⟨X,hX⟩:=c7 wr.heap.size;rw[←hX]at B0 K0⊢;have A1:=b9 K0.o;clear hX D K0;generalize (wr.alloc (Obj.cells #[.int .u64 p.k,.bool p.v.h,.int .u64 p.v.b] 57))=w2 at B0 h0 L2 f0 k1 j1⊢;have k0: ∀wx,Ch (fun x=>x=F) w2 wx→wx.cell? ⟨sp,1,none⟩=some (.int .i64 k):=fun wx h=>h.cell L2.o L0.o;have q0: ∀wx,Ch (fun x=>x=F) w2 wx→wx.cell? ⟨X,0,none⟩=some (.int .u64 p.k):=fun wx h=>h.cell B0.o.c0 A1.o;have q1: ∀wx,Ch (fun x=>x=F) w2 wx→wx.cell? ⟨X,1,none⟩=some (.bool p.v.h):=fun wx h=>h.cell B0.o.c1 A1.o;have q2: ∀wx,Ch (fun x=>x=F) w2 wx→wx.cell? ⟨X,2,none⟩=some (.int .u64 p.v.b):=fun wx h=>h.cell B0.o.c2 A1.o;go_wp2_with fail;refine wp_region_noPanic ?_;refine wp_region_held_drew (S:=fun wx=>Ch (fun x=>x=F) w2 wx) (by kernel_rfl) ?_ fun r=>?_
   ·exact Ch.of_below (d8 w2 1)
   refine g6 0 64 rfl r ?_;refine g6 1 65 rfl r ?_;refine g6 2 66 rfl r ?_;refine g6 3 67 rfl r ?_;refine g6 4 68 rfl r ?_;refine g6 5 69 rfl r ?_;refine C7 6 70 rfl fun K hK=>?_;go_simp;refine(BI (w:=w2.drew) h0.o i0.o.2.1 i0.o.2.2 k b F2.o).mono ?_;rintro e9 w3 ⟨rfl,⟨g3,f2,_⟩,Z0⟩;have J3:=b9 f2;have W:=b9 ((Ch.of_below (d8 w2 1)).self Z0);clear f2 Z0;refine hK.out _ _ ?_ fun r=>?_
   ·exact W.o
   clear hK K;try simp only[Act.put,zz]
   refine g6 7 16 rfl r ?_;refine wpAnyH_done (by kernel_rfl) ?_ _;refine NoPanic.normal ?_;obtain⟨I,hI⟩:=c7 ((M5 k b Lc p.k p.v).1);rw[←hI];have C0:=b9 hI;clear hI k0 q0 q1 q2;by_cases Z:I=0;rotate_left
   ·have U3:(I !=0)=true:=by rw[bne_iff_ne];exact Z
    have Q2:c6 (T6 k b Ls l=M5 k b Lc p.k p.v):=by show _=_;rw[T1.o,HP.o];exact IF O0 (by rw[←HP.o,←C0.o];exact Z)
    have G:c6 (eK m' k b a Ls l=some I):=by show _=_;rw[C0.o,←Q2.o];exact PL W0.o HJ.o.symm R0.o.symm (by rw[Q2.o,←C0.o];exact Z)
    have y3:=b9 (f0.o.high W.o (fun x hx e=>by have N:=j0.o x hx;have s:=E.o.1;omega) L0.o);have K3:=b9 (j1.o.trans W.o (fun x hx=>by subst hx;exact .inr E.o.1));clear Z;go_wp2_with fail;go_ret;exact .inr (.inl ⟨HS.o,I,S7,G.o,rfl,y3.o,J1.o,K3.o⟩)
   ·have Z2:c6 (Nn w9 F k b Ls l (.int .i64 ((i:Int)+1)) w3):=by
     refine⟨i+1,(M5 k b Lc p.k p.v).2,g3,rfl,O0,?_,nY i0.o b3.o F2.o O3.o (by rw[←C0.o];exact Z),J3.o,k1.o.self W.o⟩;rw[T1.o,HP.o];exact PK O0 (by rw[←HP.o,←C0.o];exact Z)
    subst Z;go_wp2_with fail;go_roundw
    case rel=>exact Z2.o
    case measure=>simp[intOf];omega
  ·have S2: ¬(i:Int)<(n:Int):=by omega
   have P2:c6 (T6 k b Ls l=(0,Lc)):=by show _=_;rw[T1.o,List.drop_of_length_le (by have:=HN.o;omega)];rfl
   have G:=b9 (MK W0.o HJ.o.symm R0.o.symm (by rw[P2.o]));have h0:=b9 (F1.o.below (d8 _ 1));have H:=b9 (L.o.below (o0.o.trans (O1.o.to_below o0.o.size (fun x hx=>by have:=f1.o;omega))));have d3:c6 (∀j,j<6→Cv wr.drew (f j) (B3 Ls j)):=fun j hj=>(H.o.cv j hj).below (d8 _ 1);have D3:=b9 D0.o.size;have X2:c6 (sp<wr.heap.size):=by have N:=g1.o;have s:=D0.o.size;show _<_;omega
   have N0:=b9 H.o.lt;have T2:c6 (S7.wr<4611686018427387904):=by have N:=J1.o.wr;have s:=v3.o;show _<_;omega
   obtain⟨pb,b2⟩:=w0.o.book;have i1:=b9 b2;clear b2 d2;go_wp2_with fail;refine wp_region_noPanic ?_;refine wp_region_held_drew (S:=fun wx=>wx.cell? ⟨sp,0,none⟩=some (.pointer (some ⟨pb,0,none⟩))∧ ∀j,j<6→wx.cell? ⟨d0,j,none⟩=some (f j)) (by kernel_rfl) ?_ fun r=>?_
   ·exact⟨i1.o,H.o.c⟩
   refine QG 0 75 ?_ rfl ?_ r ?_;rotate_left
   ·intro w t;obtain⟨t,d⟩:=t;(have x0:=d 0 (by omega));(have x1:=d 1 (by omega));(have x2:=d 2 (by omega));(have x3:=d 3 (by omega));(have x4:=d 4 (by omega));(have x5:=d 5 (by omega));rw[HE.o.1]at x0;rw[HE.o.2.1]at x1;rw[HE.o.2.2.1]at x2;rw[HE.o.2.2.2.1]at x3;rw[HE.o.2.2.2.2.1]at x4;rw[HE.o.2.2.2.2.2]at x5;clear d;go_simp;all_goals (with_reducible rfl)
   try simp only[Act.put,zz]
   refine QG 1 76 ?_ rfl ?_ r ?_;rotate_left
   ·intro w t;obtain⟨t,d⟩:=t;(have x0:=d 0 (by omega));(have x1:=d 1 (by omega));(have x2:=d 2 (by omega));(have x3:=d 3 (by omega));(have x4:=d 4 (by omega));(have x5:=d 5 (by omega));rw[HE.o.1]at x0;rw[HE.o.2.1]at x1;rw[HE.o.2.2.1]at x2;rw[HE.o.2.2.2.1]at x3;rw[HE.o.2.2.2.2.1]at x4;rw[HE.o.2.2.2.2.2]at x5;clear d;go_simp;all_goals (with_reducible rfl)
   try simp only[Act.put,zz]
   refine QG 2 77 ?_ rfl ?_ r ?_;rotate_left
   ·intro w t;obtain⟨t,d⟩:=t;(have x0:=d 0 (by omega));(have x1:=d 1 (by omega));(have x2:=d 2 (by omega));(have x3:=d 3 (by omega));(have x4:=d 4 (by omega));(have x5:=d 5 (by omega));rw[HE.o.1]at x0;rw[HE.o.2.1]at x1;rw[HE.o.2.2.1]at x2;rw[HE.o.2.2.2.1]at x3;rw[HE.o.2.2.2.2.1]at x4;rw[HE.o.2.2.2.2.2]at x5;clear d;go_simp;all_goals (with_reducible rfl)
   try simp only[Act.put,zz]
   refine QG 3 78 ?_ rfl ?_ r ?_;rotate_left
   ·intro w t;obtain⟨t,d⟩:=t;(have x0:=d 0 (by omega));(have x1:=d 1 (by omega));(have x2:=d 2 (by omega));(have x3:=d 3 (by omega));(have x4:=d 4 (by omega));(have x5:=d 5 (by omega));rw[HE.o.1]at x0;rw[HE.o.2.1]at x1;rw[HE.o.2.2.1]at x2;rw[HE.o.2.2.2.1]at x3;rw[HE.o.2.2.2.2.1]at x4;rw[HE.o.2.2.2.2.2]at x5;clear d;go_simp;all_goals (with_reducible rfl)
   try simp only[Act.put,zz]
   refine QG 4 79 ?_ rfl ?_ r ?_;rotate_left
   ·intro w t;obtain⟨t,d⟩:=t;(have x0:=d 0 (by omega));(have x1:=d 1 (by omega));(have x2:=d 2 (by omega));(have x3:=d 3 (by omega));(have x4:=d 4 (by omega));(have x5:=d 5 (by omega));rw[HE.o.1]at x0;rw[HE.o.2.1]at x1;rw[HE.o.2.2.1]at x2;rw[HE.o.2.2.2.1]at x3;rw[HE.o.2.2.2.2.1]at x4;rw[HE.o.2.2.2.2.2]at x5;clear d;go_simp;all_goals (with_reducible rfl)
   try simp only[Act.put,zz]
   refine C7 5 80 rfl fun K hK=>?_;go_simp;have v1:=nJ (w:=wr.drew) (g:=f) h0.o T0.o.1 d3.o i0.o.2.1;rw[HE.o.1,HE.o.2.1,HE.o.2.2.1,HE.o.2.2.2.1,HE.o.2.2.2.2.1,HE.o.2.2.2.2.2]at v1;refine v1.mono ?_;clear v1;rintro e9 w3 ⟨lv,rfl,G0,O⟩;have t0:=b9 (a9 (d8 wr 1) O);have U2:=b9 (G0.low D3.o);have z0:=b9 (w0.o.below t0.o);have Q:c6 (w3.cell? ⟨sp,0,none⟩=some (.pointer (some ⟨pb,0,none⟩))):=by show _=_;rw[t0.o.cell (p:=⟨sp,0,none⟩) X2.o];exact i1.o
   obtain⟨la,ln,lc,l3⟩:=iK G0;subst l3;clear G0 O;refine hK.out _ _ ?_ fun r=>?_
   ·exact⟨Q.o,fun j hj=>(t0.o.cell (p:=⟨d0,j,none⟩) N0.o).trans (H.o.c j hj)⟩
   clear hK K;try simp only[Act.put,zz]
   refine C7 6 81 rfl fun K hK=>?_;go_simp;obtain⟨sp',bv',e',z1,l2,k2,r3⟩:=z0.o
   cases e'
   have q3:bv'= .pointer (some ⟨pb,0,none⟩):=by have h9:=Q.o;rw[cell_of_row w3 sp 0 _ _ (0,0) z1]at h9;simpa using h9
   subst q3;have M2:c6 _:=z1;have M1:c6 _:=l2;refine(oA k2 (U2.o.tx j0.o) T2.o).mono ?_;rintro e9 f3 ⟨rfl,⟨A',i2,j2⟩,g0⟩;have N3:c6 _:=i2;have R2:=b9 j2;have l1:=b9 g0;have c3:=b9 (g0.cell Q.o M1.o);have Y2:c6 (∀j,j<6→f3.cell? ⟨d0,j,none⟩=some (f j)):=fun j hj=>g0.cell ((t0.o.cell (p:=⟨d0,j,none⟩) N0.o).trans (H.o.c j hj)) (fun e=>by have N:=j0.o _ e;have s:=U1.o;simp only at N;omega);clear i2 j2 g0 z1 l2 k2 r3;refine hK.out _ _ ?_ fun r=>?_
   ·exact⟨c3.o,Y2.o⟩
   clear hK K;try simp only[Act.put,zz]
   refine QG 7 8 ?_ rfl ?_ r ?_;rotate_left
   ·intro w t;obtain⟨t,d⟩:=t;(have x0:=d 0 (by omega));(have x1:=d 1 (by omega));(have x2:=d 2 (by omega));(have x3:=d 3 (by omega));(have x4:=d 4 (by omega));(have x5:=d 5 (by omega));rw[HE.o.1]at x0;rw[HE.o.2.1]at x1;rw[HE.o.2.2.1]at x2;rw[HE.o.2.2.2.1]at x3;rw[HE.o.2.2.2.2.1]at x4;rw[HE.o.2.2.2.2.2]at x5;clear d;go_simp;all_goals (with_reducible rfl)
   try simp only[Act.put,zz]
   refine wpAnyH_done (by kernel_rfl) ?_ _;refine NoPanic.normal ?_;go_wp2_with fail;go_ret;have O2:qH k b Ls l=aH Ls Lc 6:=by unfold qH;rw[P2.o]
   refine .inr (.inr ⟨HS.o,G.o,S7,A',J1.o,by rw[O2];rfl,?_,fun x hx=>?_,?_⟩)
   ·rw[O2];have hl:=(Array.getElem?_eq_some_iff.1 M2.o).1
    exact⟨sp,_,rfl,by rw[l1.o.block sp hl M1.o];exact M2.o,fun e=>by
     rcases R2.o sp e with q|q
     ·exact M1.o q
     ·omega,N3.o,by
     rw[dU (B:=S.bl.length) I3.o P3.o];exact w0.o.ok.2⟩
   ·rcases R2.o x hx with q|q
    ·exact .inl q
    ·have N:=t0.o.size;have s:=D0.o.size;right;omega
   ·exact(D0.o.self (Ch.of_below t0.o)).self l1.o
end
end
section
def D2(m:Mk)(Ls:List (List Cl)):List f7:=(J1 m).1::Ls.map (fun l=>(m9 l).1)
structure Gd(m:Mk)(Ls:List (List Cl)):Prop where
 snd:o4 m=true
 ko:B9 m.k
 pok:MM Ls
 enc: ∀i,i<6→(m9 (B3 Ls i)).2=0
theorem PH(m:Mk)(Ls:List (List Cl)):bk (D2 m Ls) 0=(J1 m).1:=rfl
theorem nP(m:Mk)(Ls:List (List Cl))(i:Nat):bk (D2 m Ls) (i+1)=(m9 (B3 Ls i)).1:=by
 unfold bk D2 B3;simp only[List.getD_eq_getElem?_getD,List.getElem?_cons_succ,List.getElem?_map]
 cases Ls[i]? with
 |none=>rfl
 |some l=>rfl
theorem zU: ∀ks:f7,(Wm.encAll ks).length≤10*ks.length:=by
 intro ks
 induction ks with
 |nil=>simp[Wm.encAll]
 |cons k l a=>
  have:=Wm.enc_len k;simp only[Wm.encAll,List.length_append,List.length_cons]at a⊢;omega
theorem kO(m:Mk):(J1 m).1.length≤1024:=by
 unfold J1
 split
 ·rename_i h
  have g:=G6 h;have f:=Wm.enc_len m.b.toNat;have e:=Wm.enc_len m.a.toNat;have d:=Wm.enc_len m.k.length;have c:=zU m.k;show(W5 m).length≤_;unfold W5;simp only[List.length_append];omega
 ·simp
theorem Dy{m:Mk}(h:o4 m=true):(J1 m).1≠[]:=by
 unfold J1;rw[if_pos h];have a:=Wm.enc_len m.b.toNat;intro e;have:(W5 m).length=0:=by simp only at e;rw[e];rfl
 unfold W5 at this;simp only[List.length_append]at this;omega
section

variable{P:Bo}{S:Dk}{m m':Mk}{Ls Ls':List (List Cl)}

theorem qD(g:Gd m Ls)(h:Iw P S (D2 m Ls)):B7 (A0 P S 0)=(m,0):=by
 have a:=h.get (p:=0) (by omega);rw[PH]at a;rw[show((0:Nat):Int)=0 from rfl]at a;rw[a];have b:=EW g.snd g.ko [];unfold J1;rw[if_pos g.snd];simpa using b
theorem Dh(g:Gd m Ls)(h:Iw P S (D2 m Ls)){i:Nat}(hi:i<6):t7 (A0 P S (1+(i:Int)))=(B3 Ls i,0):=by
 have a:=h.get (p:=i+1) (by omega);rw[nP]at a;rw[show(1+(i:Int))=((i+1:Nat):Int) by omega,a];exact kI (g.enc i hi) (g.pok.2.1 i hi)
theorem Ij(g:Gd m Ls)(h:Iw P S (D2 m Ls)): ∀k,k≤6→C8 P S k=some (Ls.take k):=by
 intro k
 induction k with
 |zero=>intro _;rfl
 |succ k c=>
  intro d;have b:=Dh g h (i:=k) (by omega);have a:k<Ls.length:=by rw[g.pok.1];omega
  rw[zX (c (by omega)) (by rw[b]),b,List.take_succ_eq_append_getElem a,aW a]
theorem mU(g:Gd m Ls)(h:Iw P S (D2 m Ls)):C8 P S 6=some Ls:=by
 have:=Ij g h 6 (Nat.le_refl _);rwa [List.take_of_length_le (by rw[g.pok.1];exact Nat.le_refl _)]at this
theorem nH{old new:List (List Cl)}: ∀{n:Nat}{q:Int × f7},q∈aH old new n↔ ∃i:Nat,i<n∧B3 new i≠B3 old i∧q=(1+(i:Int),(m9 (B3 new i)).1):=by
 intro n
 induction n with
 |zero=>intro q;simp[aH]
 |succ n d=>
  intro q;by_cases h:B3 new n=B3 old n
  ·rw[iF h,d];constructor
   ·rintro⟨i,a,b,c⟩;exact⟨i,by omega,b,c⟩
   ·rintro⟨i,a,b,c⟩;refine⟨i,?_,b,c⟩;have:i≠n:=by rintro rfl;exact b h
    omega
  ·rw[jE h,List.mem_append,d];constructor
   ·rintro(⟨i,a,b,c⟩|e)
    ·exact⟨i,by omega,b,c⟩
    ·simp at e;exact⟨n,by omega,h,e⟩
   ·rintro⟨i,a,b,c⟩;by_cases e:i=n
    ·subst e;right;simp[c]
    ·left;exact⟨i,by omega,b,c⟩
theorem wL(old new:List (List Cl)): ∀n:Nat,((aH old new n).map (·.1)).Nodup:=by
 intro n
 induction n with
 |zero=>simp[aH]
 |succ n c=>
  by_cases h:B3 new n=B3 old n
  ·rw[iF h];exact c
  ·rw[jE h,List.map_append,List.nodup_append];refine⟨c,by simp,fun a g b d=>?_⟩;obtain⟨q,f,e⟩:=List.mem_map.1 g;obtain⟨i,l,k,j⟩:=nH.1 f;simp at d;subst d;rw[←e,j];show 1+(i:Int)≠_;omega
theorem GJ(Ls:List (List Cl)): ∀n,aH Ls Ls n=[]:=by
 intro n
 induction n with
 |zero=>rfl
 |succ n a=>rw[iF rfl,a]
theorem El{a b:List f7}(hl:a.length=b.length)(h: ∀p,p<a.length→bk a p=bk b p):a=b:=by
 refine List.ext_getElem hl (fun i c d=>?_);have:=h i c;unfold bk at this;simpa[c,d]using this
def R6(Ls Ls':List (List Cl))(o:Option Mk):List (Int × f7):=aH Ls Ls' 6++(match o with|none=>[]|some m=>[(0,(J1 m).1)])
theorem nI(g:Gd m' Ls')(o:Option Mk):UB 7 (R6 Ls Ls' o):=by
 have d: ∀q∈aH Ls Ls' 6,1≤q.1∧q.1<7∧q.2.length≤1024:=fun q c=>by
  obtain⟨i,a,b,e⟩:=nH.1 c;subst e;refine⟨by show 1≤1+(i:Int);omega,by show 1+(i:Int)<7;omega,(YI (g.enc i a)).1⟩
 cases o with
 |none=>
  unfold R6;simp only[List.append_nil];exact⟨fun q c=>by have:=d q c;omega,wL _ _ 6,fun q c=>(d q c).2.2⟩
 |some x=>
  unfold R6;refine⟨fun q c=>?_,?_,fun q c=>?_⟩
  ·rcases List.mem_append.1 c with c|c
   ·have:=d q c;omega
   ·simp at c;subst c;simp
  ·rw[List.map_append,List.nodup_append];refine⟨wL _ _ 6,by simp,fun a h b f=>?_⟩;obtain⟨q,c,e⟩:=List.mem_map.1 h;simp at f;have:=d q c;omega
  ·rcases List.mem_append.1 c with c|c
   ·exact(d q c).2.2
   ·simp at c;subst c;exact kO x
theorem jF(hl:Ls.length=6)(g:Gd m' Ls')(o:Option Mk)(ho:o=some m'∨(o=none∧m'=m)):oU (D2 m Ls) (R6 Ls Ls' o)=D2 m' Ls':=by
 have n:=nI (Ls:=Ls) g o;have f:(D2 m Ls).length=7:=by unfold D2;simp[hl]
 have k: ∀q∈R6 Ls Ls' o,0≤q.1∧q.1.toNat<(D2 m Ls).length:=fun q d=>by have:=n.pg q d;rw[f];omega
 refine El (by rw[qP,f];unfold D2;simp[g.pok.1]) fun p r=>?_;rw[qP,f]at r
 cases p with
 |zero=>
  rcases ho with rfl|⟨rfl,rfl⟩
  ·exact wY (R6 Ls Ls' (some m')) (D2 m Ls) (0,(J1 m').1) (by unfold R6;simp) k n.nd
  ·rw[lG _ _ (by rw[f];omega) (fun q d=>(k q d).1) ?_]
   ·rfl
   ·intro l;obtain⟨q,d,e⟩:=List.mem_map.1 l;unfold R6 at d;simp only[List.append_nil]at d;obtain⟨i,a,b,c⟩:=nH.1 d;rw[c]at e;simp only at e;omega
 |succ i=>
  by_cases h:B3 Ls' i=B3 Ls i
  ·rw[lG _ _ (by rw[f];omega) (fun q d=>(k q d).1) ?_]
   ·rw[nP,nP,h]
   ·intro l;obtain⟨q,d,e⟩:=List.mem_map.1 l;unfold R6 at d;rcases List.mem_append.1 d with d|d
    ·obtain⟨j,a,b,c⟩:=nH.1 d;rw[c]at e;simp only at e;have:j=i:=by omega
     subst this;exact b h
    ·rcases ho with rfl|⟨rfl,rfl⟩
     ·simp at d;subst d;simp at e;omega
     ·simp at d
  ·have:=wY (R6 Ls Ls' o) (D2 m Ls) (1+(i:Int),(m9 (B3 Ls' i)).1) (by unfold R6;rw[List.mem_append];exact .inl (nH.2 ⟨i,by omega,h,rfl⟩)) k n.nd;rw[nP];rw[show(1+(i:Int)).toNat=i+1 by omega]at this;exact this
def fX(Ls:List (List Cl))(m:Mk)(b:Int):List (List Cl):=if b=m.b then Ls.map (A4 m.k m.b)else Ls
theorem AG(Ls:List (List Cl))(m:Mk)(b a:Int)(ks:f7):dF Ls m b a ks=R6 Ls (fX Ls m b) (some ⟨b,a,ks⟩):=by
 unfold dF UE R6 fX
 split
 ·rfl
 ·rw[GJ]
theorem ZN(kind b:Int)(Ls:List (List Cl))(l:List Pr):qH kind b Ls l=R6 Ls (T6 kind b Ls l).2 none:=by
 unfold qH R6;simp
end
end
def aI(l:List Cl):Prop:=l.Pairwise (fun a b=>a.k<b.k)
theorem WU: ∀(l:List Cl) (o:Option Nat),eY o l=true↔aI l∧ ∀j,o=some j→ ∀c∈l,j<c.k:=by
 intro l
 induction l with
 |nil=>intro o;simp[eY,aI]
 |cons d r i=>
  intro o;rw[eY,Bool.and_eq_true,i];unfold aI;rw[List.pairwise_cons];constructor
  ·rintro⟨h,g,e⟩;refine⟨⟨fun a m=>e d.k rfl a m,g⟩,fun j f c b=>?_⟩;subst f;have n:j<d.k:=of_decide_eq_true h;rcases List.mem_cons.1 b with rfl|b
   ·exact n
   ·have:=e d.k rfl c b;omega
  ·rintro⟨⟨h,g⟩,e⟩;refine⟨?_,g,fun j f c b=>by cases f;exact h c b⟩
   cases o with
   |none=>rfl
   |some j=>exact decide_eq_true (e j rfl d (by simp))
theorem mE{l:List Cl}:O9 l=true↔aI l:=by
 unfold O9;rw[WU];simp
theorem FN: ∀(l:List Cl) (o:Option Nat),U3 o l=0↔eY o l=true∧ ∀c∈l,F6 c=true:=by
 intro l
 induction l with
 |nil=>intro o;simp[U3,eY]
 |cons d r b=>
  intro o;rw[U3,eY]
  cases h1:N0 o d.k
  ·simp
  ·cases a:F6 d
   ·simp[a]
   ·simp[b,a]
theorem fM{l:List Cl}:(m9 l).2=0↔l.length≤16∧aI l∧ ∀c∈l,F6 c=true:=by
 constructor
 ·intro h;rcases cS h with ⟨rfl,_⟩|⟨_,b,a,_⟩
  ·simp[aI]
  ·have:=(FN l none).1 a;exact⟨b,mE.1 this.1,this.2⟩
 ·rintro⟨d,b,a⟩;unfold m9;rw[if_neg (by omega)]
  split
  ·rfl
  ·rw[if_pos ((FN l none).2 ⟨mE.2 b,a⟩)]
theorem OS: ∀{l:List Cl}{k:Nat},aI l→(∀c∈l.take (x8 l k),c.k<k)∧(∀c∈l.drop (x8 l k),k≤c.k):=by
 intro l
 induction l with
 |nil=>intro k _;simp
 |cons d r b=>
  intro k h;unfold aI at h;rw[List.pairwise_cons]at h;rw[x8]
  split
  ·rename_i hd
   obtain⟨f,e⟩:=b (k:=k) h.2;refine⟨fun c a=>?_,fun c a=>e c (by simpa using a)⟩;rw[List.take_succ_cons,List.mem_cons]at a;rcases a with rfl|a
   ·exact hd
   ·exact f c a
  ·refine⟨by simp,fun c a=>?_⟩;simp at a;rcases a with rfl|a
   ·omega
   ·have:=h.1 c a;omega
theorem OF{l:List Cl}{k:Nat}(h:aI l):fT l (x8 l k) k=true↔ ∃c∈l,c.k=k:=by
 constructor
 ·intro e;obtain⟨f,m⟩:=OE e;exact⟨_,List.getElem_mem f,m⟩
 ·rintro⟨c,a,e⟩;obtain⟨i,g⟩:=OS (k:=k) h;rw[←List.take_append_drop (x8 l k) l,List.mem_append]at a;rcases a with a|a
  ·have:=i c a;omega
  ·have b:x8 l k<l.length:=by
    have:=List.length_pos_of_mem a;simp only[List.length_drop]at this;omega
   unfold fT;rw[List.getElem?_eq_getElem b];refine decide_eq_true ?_;rw[List.drop_eq_getElem_cons b]at a;rcases List.mem_cons.1 a with j|a
   ·rw[←j];exact e
   ·have d:aI (l.drop (x8 l k)):=List.Pairwise.sublist (List.drop_sublist _ _) h;rw[List.drop_eq_getElem_cons b]at d;have o:=(List.pairwise_cons.1 d).1 c a;have n:=g l[x8 l k] (by rw[List.drop_eq_getElem_cons b];exact List.mem_cons_self);omega
theorem BD{l:List Cl}(h:aI l){c d:Cl}(hc:c∈l)(hd:d∈l)(e:c.k=d.k):c=d:=by
 induction l with
 |nil=>simp at hc
 |cons a r f=>
  obtain⟨b,g⟩:=List.pairwise_cons.1 h;rcases List.mem_cons.1 hc with q|q
  ·rcases List.mem_cons.1 hd with z|z
   ·rw[q,z]
   ·have:=b d z;rw[q]at e;omega
  ·rcases List.mem_cons.1 hd with z|z
   ·have:=b c q;rw[z]at e;omega
   ·exact f g q z
theorem NF{a b:List Cl}{c:Cl}(ha:aI a)(hb:aI b)(h1: ∀x∈a,x.k<c.k)(h2: ∀x∈b,c.k<x.k):aI (a++([c]++b)):=by
 unfold aI;rw[List.pairwise_append];refine⟨ha,?_,fun x e y d=>?_⟩
 ·rw[List.singleton_append,List.pairwise_cons];exact⟨h2,hb⟩
 ·rw[List.singleton_append,List.mem_cons]at d;rcases d with rfl|d
  ·exact h1 x e
  ·have:=h1 x e;have:=h2 y d;omega
theorem Bd{l:List Cl}{c:Cl}(hs:aI l)(h:(∃d∈l,d.k=c.k)∨l.length<16): ∃r,I7 l c=(r,0)∧aI r∧(∀x,x∈r↔x=c∨(x∈l∧x.k≠c.k)):=by
 obtain⟨j,t⟩:=OS (k:=c.k) hs;have m:aI (l.take (x8 l c.k)):=List.Pairwise.sublist (List.take_sublist _ _) hs;unfold I7;rw[if_neg (by rw[mE.2 hs];simp)];by_cases f:fT l (x8 l c.k) c.k=true
 ·rw[if_pos f];obtain⟨o,e⟩:=OE f;have hd:aI (l.drop (x8 l c.k)):=List.Pairwise.sublist (List.drop_sublist _ _) hs;have hcut:=List.take_append_drop (x8 l c.k) l;rw[List.drop_eq_getElem_cons o]at hd hcut;obtain⟨s,p⟩:=List.pairwise_cons.1 hd;have g: ∀x∈l.drop (x8 l c.k+1),c.k<x.k:=fun x a=>by have:=s x a;omega
  refine⟨_,rfl,NF m p j g,fun x=>?_⟩
  have i:x∈l↔x∈l.take (x8 l c.k)∨x=l[x8 l c.k]∨x∈l.drop (x8 l c.k+1):=by
   conv=>lhs;rw[←hcut]
   rw[List.mem_append,List.mem_cons]
  rw[List.mem_append,List.mem_append,List.mem_singleton,i];constructor
  ·rintro(q|q|q)
   ·exact .inr ⟨.inl q,by have:=j x q;omega⟩
   ·exact .inl q
   ·exact .inr ⟨.inr (.inr q),by have:=g x q;omega⟩
  ·rintro(q|⟨q|q|q,n⟩)
   ·exact .inr (.inl q)
   ·exact .inl q
   ·subst q;exact absurd e n
   ·exact .inr (.inr q)
 ·rw[if_neg f];have b: ∀d∈l,d.k≠c.k:=fun d hd e=>f ((OF hs).2 ⟨d,hd,e⟩)
  have u:l.length<16:=by
   rcases h with ⟨d,hd,e⟩|h
   ·exact absurd e (b d hd)
   ·exact h
  rw[if_neg (by omega)];have hcut:=List.take_append_drop (x8 l c.k) l
  have g: ∀x∈l.drop (x8 l c.k),c.k<x.k:=fun x a=>by
   have w:=t x a;have v:=b x (List.mem_of_mem_drop a);omega
  refine⟨_,rfl,NF m (List.Pairwise.sublist (List.drop_sublist _ _) hs) j g,fun x=>?_⟩
  have i:x∈l↔x∈l.take (x8 l c.k)∨x∈l.drop (x8 l c.k):=by
   conv=>lhs;rw[←hcut]
   rw[List.mem_append]
  rw[List.mem_append,List.mem_append,List.mem_singleton];constructor
  ·rintro(q|q|q)
   ·have:=List.mem_of_mem_take q;exact .inr ⟨this,b x this⟩
   ·exact .inl q
   ·have:=List.mem_of_mem_drop q;exact .inr ⟨this,b x this⟩
  ·rintro(q|⟨q,n⟩)
   ·exact .inr (.inl q)
   ·rcases i.1 q with q|q
    ·exact .inl q
    ·exact .inr (.inr q)
theorem mY{l:List Cl}{k:Nat}(hs:aI l):I1 l k=true↔ ∃c∈l,c.k=k:=by
 rw[R5 (mE.2 hs)];exact OF hs
theorem Du{l:List Cl}{c:Cl}(hs:aI l)(hc:c∈l):l.getD (I0 l c.k) j9=c:=by
 obtain⟨a,e⟩:=mZ ((mY hs).2 ⟨c,hc,rfl⟩);rw[List.getD_eq_getElem?_getD,List.getElem?_eq_getElem a];exact BD hs (List.getElem_mem a) hc e
theorem XJ: ∀(n:Nat) (l:f7),l.Nodup→(∀x∈l,x<n)→l.length≤n:=by
 intro n
 induction n with
 |zero=>intro l _ h;cases l with|nil=>simp|cons a r=>exact absurd (h a (by simp)) (by omega)
 |succ n d=>
  intro l c h;by_cases f:n∈l
  ·have g:=d (l.erase n) (c.erase n) (fun x b=>by
    rw[c.mem_erase_iff]at b;have:=h x b.2;omega)
   have i:=List.length_erase_of_mem f;omega
  ·have:=d l c (fun x b=>by
    have g:=h x b;have:x≠n:=fun e=>f (e▸b);omega)
   omega
section
def gB(Ls:List (List Cl))(c:Cl):Prop:= ∃i,i<6∧c∈B3 Ls i
structure Lk(Ls:List (List Cl)):Prop where
 srt: ∀i,i<6→aI (B3 Ls i)
 dis: ∀i j c d,i<6→j<6→i≠j→c∈B3 Ls i→d∈B3 Ls j→c.k≠d.k
structure Gk(k:Int)(m:Mk)(Ls:List (List Cl)):Prop where
 gd:Gd m Ls
 kn:s9 k=true
 dis: ∀i j c d,i<6→j<6→i≠j→c∈B3 Ls i→d∈B3 Ls j→c.k≠d.k
 fit: ∀c,gB Ls c→fK k c=true
 ne: ∀c,gB Ls c→aG c=false
 bes: ∀c,gB Ls c→c.n<m.b∨(c.n=m.b∧c.k∈m.k)
def Gh(Ls:List (List Cl)):Prop:= ∀c,gB Ls c→c.k<40
section

variable{k b a:Int}{m:Mk}{Ls:List (List Cl)}{c d:Cl}{i key:Nat}{n:Int}{v:Vl}

theorem Gk.lk(h:Gk k m Ls):Lk Ls:=⟨fun i hi=>(fM.1 (h.gd.enc i hi)).2.1,h.dis⟩
theorem Lk.uniq(h:Lk Ls)(hc:gB Ls c)(hd:gB Ls d)(e:c.k=d.k):c=d:=by
 obtain⟨i,a,hc⟩:=hc;obtain⟨j,b,hd⟩:=hd;by_cases q:i=j
 ·subst q;exact BD (h.srt i a) hc hd e
 ·exact absurd e (h.dis i j c d a b q hc hd)
theorem Lk.at(h:Lk Ls)(hc:gB Ls c): ∃i,i<6∧c∈B3 Ls i∧lO Ls c.k=some i∧dC Ls i c.k=c:=by
 obtain⟨i,b,a⟩:=hc
 cases e:lO Ls c.k with
 |none=>
  have:=BG 6 0 e i (by omega) (by omega);rw[(mY (h.srt i b)).2 ⟨c,a,rfl⟩]at this
  cases this
 |some j=>
  obtain⟨_,l,f⟩:=eS 6 0 e;obtain⟨d,hd,g⟩:=(mY (h.srt j (by omega))).1 f;have:d=c:=h.uniq ⟨j,by omega,hd⟩ ⟨i,b,a⟩ g;subst this;exact⟨j,by omega,hd,rfl,Du (h.srt j (by omega)) hd⟩
theorem Lk.none(h:Lk Ls)(hn: ∀c,gB Ls c→c.k≠key):lO Ls key=none:=by
 cases e:lO Ls key with
 |none=>rfl
 |some j=>
  obtain⟨_,f,a⟩:=eS 6 0 e;obtain⟨d,hd,b⟩:=(mY (h.srt j (by omega))).1 a;exact absurd b (hn d ⟨j,by omega,hd⟩)
theorem Lk.res(h:Lk Ls)(hc:gB Ls c)(n:Int):G7 Ls c.k n=aL c n:=by
 obtain⟨i,_,_,b,a⟩:=h.at hc;unfold G7;rw[b];show aL (dC Ls i c.k) n=_;rw[a]
theorem Lk.res0(h:Lk Ls)(hn: ∀c,gB Ls c→c.k≠key)(n:Int):G7 Ls key n=K0:=by
 unfold G7;rw[h.none hn]
theorem sD(Ls:List (List Cl))(key:Nat):(∃c,gB Ls c∧c.k=key)∨ ∀c,gB Ls c→c.k≠key:=by
 by_cases h: ∃c,gB Ls c∧c.k=key
 ·exact .inl h
 ·exact .inr fun c a e=>h ⟨c,a,e⟩
theorem VH(h:Lk Ls)(hl:Ls.length=6)(hi:i<6)(hp:(∃d∈B3 Ls i,d.k=c.k)∨((∀d,gB Ls d→d.k≠c.k)∧(B3 Ls i).length<16)):
  ∃r,I7 (B3 Ls i) c=(r,0)∧Lk (Ls.set i r)∧ ∀x,gB (Ls.set i r) x↔x=c∨(gB Ls x∧x.k≠c.k):=by
 obtain⟨r,A,w,p⟩:=Bd (c:=c) (h.srt i hi) (hp.imp id (·.2));have f: ∀j,j<6→B3 (Ls.set i r) j=if i=j then r else B3 Ls j:=fun j b=>mC (by rw[hl];exact b)
 have g: ∀j x,j<6→i≠j→x∈B3 Ls j→x.k≠c.k:=fun j x b v a=>by
  rcases hp with ⟨d,hd,e⟩|⟨hp,_⟩
  ·rw[←e];exact h.dis j i x d b hi (Ne.symm v) a hd
  ·exact hp x ⟨j,b,a⟩
 refine⟨r,A,⟨fun j b=>?_,fun o m x y t s v a l=>?_⟩,fun x=>?_⟩
 ·rw[f j b];split;exact w;exact h.srt j b
 ·rw[f o t]at a;rw[f m s]at l;by_cases u:i=o
  ·rw[if_pos u]at a;have n:i≠m:=by omega
   rw[if_neg n]at l;rcases(p x).1 a with rfl|⟨a,_⟩
   ·exact Ne.symm (g m y s n l)
   ·exact h.dis i m x y hi s n a l
  ·rw[if_neg u]at a;by_cases n:i=m
   ·rw[if_pos n]at l;rcases(p y).1 l with rfl|⟨l,_⟩
    ·exact g o x t u a
    ·exact h.dis o i x y t hi (Ne.symm u) a l
   ·rw[if_neg n]at l;exact h.dis o m x y t s v a l
 ·constructor
  ·rintro⟨j,b,a⟩;rw[f j b]at a;by_cases e:i=j
   ·rw[if_pos e]at a;rcases(p x).1 a with q|⟨q,z⟩
    ·exact .inl q
    ·exact .inr ⟨⟨i,hi,q⟩,z⟩
   ·rw[if_neg e]at a;exact .inr ⟨⟨j,b,a⟩,g j x b e a⟩
  ·rintro(rfl|⟨⟨j,b,a⟩,z⟩)
   ·exact⟨i,hi,by rw[f i hi,if_pos rfl];exact(p x).2 (.inl rfl)⟩
   ·refine⟨j,b,?_⟩;rw[f j b]
    split
    ·rename_i e;subst e;exact(p x).2 (.inr ⟨a,z⟩)
    ·exact a
theorem qX{l:List Cl}(h:aI l):(l.map (·.k)).Nodup:=by
 unfold List.Nodup;rw[List.pairwise_map];exact h.imp (fun h=>by omega)
theorem Aw(h:Lk Ls)(low:Gh Ls): ∃i,eR Ls=some i∧i<6∧(B3 Ls i).length<16:=by
 cases e:eR Ls with
 |some i=>
  obtain⟨_,t,s⟩:=eS 6 0 e;exact⟨i,rfl,by omega,of_decide_eq_true s⟩
 |none=>
  exfalso
  have m: ∀j,j<6→16≤(B3 Ls j).length:=fun j g=>by
   have:=BG 6 0 e j (by omega) (by omega);simp only[decide_eq_false_iff_not]at this;omega
  have o:((B3 Ls 0).map (·.k)++((B3 Ls 1).map (·.k)++(B3 Ls 2).map (·.k))).Nodup:=by
   have a: ∀i j,i<6→j<6→i≠j→ ∀x∈(B3 Ls i).map (·.k),∀y∈(B3 Ls j).map (·.k),x≠y:=fun i j r g q x a y b=>by
    obtain⟨c,n,rfl⟩:=List.mem_map.1 a;obtain⟨d,hd,rfl⟩:=List.mem_map.1 b;exact h.dis i j c d r g q n hd
   rw[List.nodup_append,List.nodup_append];refine⟨qX (h.srt 0 (by omega)),⟨qX (h.srt 1 (by omega)),qX (h.srt 2 (by omega)),a 1 2 (by omega) (by omega) (by omega)⟩,fun x f y b=>?_⟩;rcases List.mem_append.1 b with b|b
   ·exact a 0 1 (by omega) (by omega) (by omega) x f y b
   ·exact a 0 2 (by omega) (by omega) (by omega) x f y b
  have p:=XJ 40 _ o (fun x a=>by
   have l: ∀j,j<6→x∈(B3 Ls j).map (·.k)→x<40:=fun j g a=>by
    obtain⟨c,n,rfl⟩:=List.mem_map.1 a;exact low c ⟨j,g,n⟩
   rcases List.mem_append.1 a with a|a
   ·exact l 0 (by omega) a
   ·rcases List.mem_append.1 a with a|a
    ·exact l 1 (by omega) a
    ·exact l 2 (by omega) a)
  simp only[List.length_append,List.length_map]at p;have v:=m 0 (by omega);have u:=m 1 (by omega);have t:=m 2 (by omega);omega
theorem sR{x y:Vl}:AK x y=true↔x=y:=by
 obtain⟨a,b⟩:=x;obtain⟨c,d⟩:=y;simp[AK]
theorem T3:fK k c=true↔s9 k=true∧r9 k c.p=c.p∧r9 k c.c=c.c∧0≤c.n∧c.n≤1099511627776:=by
 simp only[fK,Bool.and_eq_true,sR,decide_eq_true_eq,and_assoc]
theorem vX(h:r9 k v=v):N4 v=true:=by
 unfold N4
 cases hv:v.h
 ·unfold r9 at h;rw[if_pos hv]at h;rw[←h];rfl
 ·rfl
theorem sN(h:fK k c=true):F6 c=true:=by
 obtain⟨_,e,d,b,a⟩:=T3.1 h;simp only[F6,Bool.and_eq_true,decide_eq_true_eq];exact⟨⟨⟨b,a⟩,vX e⟩,vX d⟩
theorem rZ(hv:v.h=true)(fv:r9 k v=v)(u:Vl):(J4 k u v).h=true:=by
 unfold J4 N5;rw[fv]
 split
 ·exact hv
 ·split
  ·rename_i h;rw[hv]at h;cases h
  ·split
   ·rfl
   ·split<;>rfl
theorem Ep(g:Gk k m Ls)(low:Gh Ls)(hm:m.b=b)(h1:1≤b)(hk:key∈m.k)(hlow:key<40)(hv:v.ok)(fv:r9 k v=v)(hh:v.h=true):
  ∃Ls',M5 k b Ls key v=(0,Ls')∧Gk k m Ls'∧Gh Ls'∧(∀x,x≠key→ ∀n,G7 Ls' x n=G7 Ls x n)∧G7 Ls' key (b-1)=G7 Ls key (b-1)∧G7 Ls' key b=J4 k (G7 Ls key (b-1)) v∧
   (∀c,gB Ls c→c.k≠key→gB Ls' c)∧ ∃c,gB Ls' c∧c.k=key∧c.n=b∧c.c=J4 k c.p v:=by
 have y:=g.lk;have E:b≤1099511627776:=by have:=G6 g.gd.snd;omega
 have B: ∃i c,M4 Ls key=some (i,c)∧i<6∧c.k=key∧fK k c=true∧c.n≤b∧((∃d∈B3 Ls i,d.k=key)∨((∀d,gB Ls d→d.k≠key)∧(B3 Ls i).length<16))∧G7 Ls key (b-1)=I6 c b:=by
  rcases sD Ls key with ⟨c,F,rfl⟩|w
  ·obtain⟨i,D,K,S,R⟩:=y.at F;refine⟨i,c,by unfold M4;rw[S];simp only[R],D,rfl,g.fit c F,?_,.inl ⟨c,K,rfl⟩,?_⟩
   ·rcases g.bes c F with q|q<;>omega
   ·rw[y.res F];unfold aL I6;by_cases q:c.n<b
    ·rw[if_pos q,if_pos (by omega)]
    ·rw[if_neg q,if_neg (by omega)]
  ·obtain⟨i,e,D,I⟩:=Aw y low;refine⟨i,⟨key,K0,K0,0⟩,by unfold M4;rw[y.none w];simp only[e],D,rfl,T3.2 ⟨g.kn,rfl,rfl,by show(0:Int)≤0;decide,by show(0:Int)≤1099511627776;decide⟩,by show(0:Int)≤b;omega,.inr ⟨w,I⟩,?_⟩;rw[y.res0 w];unfold I6
   split<;>rfl
 obtain⟨i,c,Q,D,J,L,T,B,z⟩:=B
 have N:Z1 k c b=0:=by
  unfold Z1;rw[if_neg (by rw[g.kn];simp;omega),if_neg (by omega)]
 obtain⟨_,f1,f2,f3,f4⟩:=T3.1 L;have M:r9 k (I6 c b)=I6 c b:=by unfold I6;split;exact f2;exact f1
 have O:N2 k c b v=⟨key,I6 c b,J4 k (I6 c b) v,b⟩:=by unfold N2;rw[if_pos N,J]
 obtain⟨c',a⟩:=c7 (N2 k c b v);rw[O]at a;have l:c'.k=key:=by rw[a]
 obtain⟨r,P,s,t⟩:=VH (c:=c') y g.gd.pok.1 D (by rw[l];exact B)
 have H:M5 k b Ls key v=(0,Ls.set i r):=by
  rw[tE Q N,O,←a];unfold uR;rw[P];rfl
 have C:fK k c'=true:=T3.2 ⟨g.kn,by rw[a];exact M,by rw[a];exact vY k _ _,by rw[a];show 0≤b;omega,by rw[a];exact E⟩;have u:=(t c').2 (.inl rfl)
 have A:MM (Ls.set i r):=by
  have:=nY (kind:=k) (b:=b) (v:=v) (k:=key) g.gd.pok (by omega) hv (by omega) (by rw[H]);rwa [H]at this
 have o: ∀x,gB (Ls.set i r) x→fK k x=true∧aG x=false∧(x.n<m.b∨(x.n=m.b∧x.k∈m.k))∧x.k<40:=fun x f=>by
  rcases(t x).1 f with rfl|⟨f,_⟩
  ·refine⟨C,?_,.inr ⟨by rw[a];exact hm.symm,by rw[l];exact hk⟩,by rw[l];exact hlow⟩;unfold aG;rw[a];simp only[rZ hh fv];simp
  ·exact⟨g.fit x f,g.ne x f,g.bes x f,low x f⟩
 refine⟨_,H,⟨⟨g.gd.snd,g.gd.ko,A,fun j G=>fM.2 ⟨A.2.2 j G,s.srt j G,fun x f=>sN (o x ⟨j,G,f⟩).1⟩⟩,g.kn,s.dis,fun x f=>(o x f).1,fun x f=>(o x f).2.1,fun x f=>(o x f).2.2.1⟩,fun x f=>(o x f).2.2.2,fun x f n=>?_,?_,?_,fun x f w=>(t x).2 (.inr ⟨f,by rw[l];exact w⟩),c',u,l,by rw[a],by rw[a]⟩
 ·rcases sD Ls x with ⟨d,hd,rfl⟩|w
  ·rw[y.res hd,s.res ((t d).2 (.inr ⟨hd,by rw[l];exact f⟩))]
  ·rw[y.res0 w,s.res0 (fun d hd=>by
    rcases(t d).1 hd with rfl|⟨hd,_⟩
    ·rw[l];exact Ne.symm f
    ·exact w d hd)]
 ·rw[z];have:=s.res u (b-1);rw[l]at this;rw[this];unfold aL;rw[if_neg (by rw[a];show¬b≤b-1;omega),a]
 ·rw[z];have:=s.res u b;rw[l]at this;rw[this];unfold aL;rw[if_pos (by rw[a];exact Int.le_refl _),a]
def Ta(k:Int)(m:Mk)(t:List Pr):Prop:=UA t∧ ∀p∈t,p.k∈m.k∧p.k<40∧p.v.ok∧r9 k p.v=p.v∧p.v.h=true
theorem Es(hm:m.b=b)(h1:1≤b): ∀(t:List Pr) (Ls:List (List Cl)),Gk k m Ls→Gh Ls→Ta k m t→
  ∃Ls',T6 k b Ls t=(0,Ls')∧Gk k m Ls'∧Gh Ls'∧(∀x n,(∀p∈t,p.k≠x)→G7 Ls' x n=G7 Ls x n)∧(∀x,G7 Ls' x (b-1)=G7 Ls x (b-1))∧(∀p∈t,G7 Ls' p.k b=J4 k (G7 Ls p.k (b-1)) p.v)∧
   (∀c,gB Ls c→(∀p∈t,p.k≠c.k)→gB Ls' c)∧ ∀p∈t,∃c,gB Ls' c∧c.k=p.k∧c.n=b∧c.c=J4 k c.p p.v:=by
 intro t
 induction t with
 |nil=>intro Ls g low _;exact⟨Ls,rfl,g,low,fun _ _ _=>rfl,fun _=>rfl,by simp,fun _ h _=>h,by simp⟩
 |cons p r O=>
  intro Ls g low P;obtain⟨Q,d⟩:=P;obtain⟨o,l⟩:=List.pairwise_cons.1 Q;obtain⟨L,K,J,I,H⟩:=d p (by simp);obtain⟨Y,W,T,N,j,G,F,E,z,D,u,C,B⟩:=Ep g low hm h1 L K J I H;obtain⟨X,U,S,M,s,t2,t3,q,A⟩:=O Y T N ⟨l,fun x a=>d x (by simp[a])⟩;have f: ∀x∈r,x.k≠p.k:=fun x a=>by have:=o x a;omega
  refine⟨X,?_,S,M,fun x n a=>?_,fun x=>?_,fun x a=>?_,fun c R w=>?_,fun x a=>?_⟩
  ·rw[T6,W,if_neg (by simp)];exact U
  ·rw[s x n (fun y i=>a y (by simp[i])),j x (Ne.symm (a p (by simp)))]
  ·rw[t2 x];by_cases e:x=p.k
   ·rw[e];exact G
   ·exact j x e _
  ·rcases List.mem_cons.1 a with rfl|a
   ·rw[s _ _ f];exact F
   ·rw[t3 x a,j x.k (f x a)]
  ·exact q c (E c R (Ne.symm (w p (by simp)))) (fun y i=>w y (by simp[i]))
  ·rcases List.mem_cons.1 a with rfl|a
   ·exact⟨z,q z D (fun y i=>by rw[u];exact f y i),u,C,B⟩
   ·exact A x a
end
end
end Go.Proofs.YtfhoilcbhmeofaaGreat
