/- The reference's Put. -/
import Derived.Test.YtfhoilcbhmeofaaGreatB19
set_option maxRecDepth 100000
set_option maxHeartbeats 16000000
namespace Go.Proofs.YtfhoilcbhmeofaaGreat
open Go.RowKit
section
theorem KS{t:f7}{x:Nat}:x∈t↔ ∃i,i<t.length∧tn t i=x:=by
 constructor
 ·intro h;obtain⟨i,a,e⟩:=List.getElem_of_mem h;exact⟨i,a,by rw[aA a];exact e⟩
 ·rintro⟨i,a,rfl⟩;exact jU a
theorem bO{w:d9}{v:Value}{t:f7}(h:Tw w v t)(hl:t.length≤64)(x:Nat):
  Calls Tryz.prog 166 #[v,.int .i64 x] w fun e w'=>e= .returned (.bool (decide (x∈t)))∧w'=w:=by
 have HT:=b9 h;obtain⟨C,z,rfl,r,q⟩:=h.form;have u:(t.length:Int)≤64:=by omega
 obtain⟨B,g⟩:=c7 (decide (x∈t));rw[←g];have HB:=b9 g;clear h r q hl g;go_in;go_wp2_with fail;go_loop [5] (fun iv=> ∃k:Nat,k≤t.length∧iv= .int .i64 k∧ ∀i,i<k→tn t i≠x) (fun iv=>t.length-(intOf iv).toNat)
 case atStart=>exact⟨0,Nat.zero_le _,rfl,fun i n=>by omega⟩
 case round=>
  obtain⟨k,A,rfl,d⟩:=hrel;have HN:=b9 d;clear d;by_cases c:k<t.length
  ·obtain⟨b,s,rfl,p⟩:=HT.o.at c;obtain⟨y,f⟩:=c7 (tn t k);rw[←f]at p;have HY:=b9 f;clear f;have l:(k:Int)<(t.length:Int):=by omega
   by_cases a:y=x
   ·have HE:c6 (B=true):=by show _=_;rw[HB.o];exact decide_eq_true (KS.2 ⟨k,c,by rw[←HY.o];exact a⟩)
    have j:((y:Int)==(x:Int))=true:=by simp[a]
    clear a;go_wp2_with fail
    (try simp only[Exit.inBlock,Exit.then])
    go_ret;exact⟨by rw[HE.o];rfl,rfl⟩
   ·have HE:c6 (∀i,i<k+1→tn t i≠x):=fun i n=>by
     by_cases e:i=k
     ·rw[e,←HY.o];exact a
     ·exact HN.o i (by omega)
    have j:((y:Int)==(x:Int))=false:=by simp;omega
    clear a;go_wp2_with fail;go_round
    case rel=>exact⟨k+1,c,by simp,HE.o⟩
    case measure=>simp[intOf];omega
  ·have HE:c6 (B=false):=by
    show _=_;rw[HB.o];exact decide_eq_false (fun m=>by obtain⟨i,n,e⟩:=KS.1 m;exact HN.o i (by omega) e)
   have l: ¬(k:Int)<(t.length:Int):=by omega
   go_wp2_with fail;go_ret;exact⟨by rw[HE.o];rfl,rfl⟩
theorem JX{w:d9}{v u:Value}{t tk:f7}{b:Nat}(h:Tw w v t)(hu:Tw w u tk)(hl:t.length≤64)(hk:tk.length≤64)(ht: ∀y∈t,y<64)(hb: ∀y,2≤y→y≤b→y∈t∨y∈tk)(hkb: ∀y∈tk,y≤b)(hb1:1≤b):
  Calls Tryz.prog 100 #[v,u] w fun e w'=>e= .returned (.int .i64 (q8 t b:Nat))∧w'=w:=by
 have HT:c6 (Tw w v t∧t.length≤64):=⟨h,hl⟩;have HU:c6 (Tw w u tk∧tk.length≤64):=⟨hu,hk⟩;have HX:c6 (q8 t b∉t∧q8 t b∉tk):=⟨rW ht,fun e=>by have p:=hkb _ e;have n:=mN (t:=t) (b:=b);omega⟩
 have HM:c6 (∀a,2≤a→a<q8 t b→a∈t∨a∈tk):=fun a p n=>by
  by_cases e:a≤b
  ·exact hb a p e
  ·exact .inl (mM (by omega) n)
 have g:2≤q8 t b:=by have:=mN (t:=t) (b:=b);omega
 have k:q8 t b≤130:=by have:=kH hb;omega
 obtain⟨X,m⟩:=c7 (q8 t b);rw[←m]at HX HM g k⊢;clear h hu hl hk ht hb hkb hb1 m;go_in;go_wp2_with fail;go_loop [5] (fun j=> ∃a:Nat,2≤a∧a≤X∧j= .int .i64 a) (fun j=>X-(intOf j).toNat)
 case atStart=>exact⟨2,Nat.le_refl _,g,rfl⟩
 case round=>
  obtain⟨a,l,q,rfl⟩:=hrel;by_cases d:a<X
  ·by_cases f:a∈t
   ·have HD:=b9 (decide_eq_true f);clear f;go_wp2_with fail;refine(bO HT.o.1 HT.o.2 a).mono ?_;rw[HD.o];rintro e i ⟨rfl,c⟩;have c:=c.symm;subst c;go_wp2_with fail;go_round
    case rel=>exact⟨a+1,by omega,d,by simp⟩
    case measure=>simp[intOf];omega
   ·have HD:=b9 (decide_eq_false f);have HE:=b9 (decide_eq_true ((HM.o a l d).resolve_left f));clear f;go_wp2_with fail;refine(bO HT.o.1 HT.o.2 a).mono ?_;rw[HD.o];rintro e i ⟨rfl,c⟩;have c:=c.symm;subst c;go_wp2_with fail;refine(bO HU.o.1 HU.o.2 a).mono ?_;rw[HE.o];rintro e i ⟨rfl,c⟩;have c:=c.symm;subst c;go_wp2_with fail;go_round
    case rel=>exact⟨a+1,by omega,d,by simp⟩
    case measure=>simp[intOf];omega
  ·obtain rfl:a=X:=by omega
   have HD:=b9 (decide_eq_false HX.o.1);have HE:=b9 (decide_eq_false HX.o.2);go_wp2_with fail;refine(bO HT.o.1 HT.o.2 a).mono ?_;rw[HD.o];rintro e i ⟨rfl,c⟩;have c:=c.symm;subst c;go_wp2_with fail;refine(bO HU.o.1 HU.o.2 a).mono ?_;rw[HE.o];rintro e i ⟨rfl,c⟩;have c:=c.symm;subst c;go_wp2_with fail;go_ret;exact⟨rfl,rfl⟩
section

variable{A D:n9}{w w':d9}{v dv tv lv:Value}{P P':Bo}{S S':Dk}{pb:Nat}{ps:List (Int × f7)}

theorem U8(h:MQ A D w pb tv dv P S)(hs:i6 P S=false):Calls Tryz.prog 98 #[.pointer (some ⟨pb,0,none⟩)] w fun e w'=>e= .returned (.bool false)∧w'=w:=by
 have HD:=b9 h.dsk;unfold i6 at hs;rw[Bool.or_eq_false_iff]at hs;have b:=b9 hs.2;have f:=Jx h;have c:=Fl h;rw[hs.1]at c;clear h hs;go_in;go_wp2_with fail;refine(Q5 HD.o).mono ?_;rw[b.o];rintro e d ⟨rfl,a⟩;have a:=a.symm;subst a;go_wp2_with fail;go_ret;exact⟨rfl,rfl⟩
theorem pE(h:MQ A D w pb tv dv P S)(hs:i6 P S=true):Calls Tryz.prog 98 #[.pointer (some ⟨pb,0,none⟩)] w fun e w'=>e= .returned (.bool true)∧MQ A D w' pb tv dv (J6 P) S∧Ch A w w':=by
 have HD:=b9 h.dsk;have HE:=b9 (rX h);have HC:c6 (Ch A w (w.setCell ⟨pb,4,none⟩ (.bool true))):=h.chput _ _;have HM:=b9 h;have m:=Jx h;have l:=Fl h;have f4:=h.soft 4
 cases hd:S.down
 ·have g:=b9 hd;have i:P.over=true:=by unfold i6 at hs;rw[hd,Bool.or_false]at hs;exact hs
  have j:c6 (J6 P=P):=by show _=_;obtain⟨a,b,c,d⟩:=P;simp only at i;subst i;rfl
  rw[i]at l;clear h hs i hd;go_in;go_wp2_with fail;refine(Q5 HD.o).mono ?_;rw[g.o];rintro e k ⟨rfl,f⟩;have f:=f.symm;subst f;go_wp2_with fail;go_ret;exact⟨rfl,by rw[j.o];exact HM.o,Ch.refl _ _⟩
 ·have g:=b9 hd;clear h hs hd;go_in;go_wp2_with fail;refine(Q5 HD.o).mono ?_;rw[g.o];rintro e k ⟨rfl,f⟩;have f:=f.symm;subst f;go_wp2_with fail;go_ret;exact⟨rfl,HE.o,HC.o⟩
theorem pA(h:BQ A w v dv P S):Calls Tryz.prog 48 #[v] w fun e w'=>e= .returned (.int .i64 P.tab.length)∧w'=w:=by
 obtain⟨D,f,d,rfl,h⟩:=h;have g:=Hx h;obtain⟨i,c,rfl,b,a⟩:=h.tab.form;clear h b a;go_in;go_wp2_with fail;go_ret;exact⟨rfl,rfl⟩
theorem CH(h:BQ A w v dv P S):Calls Tryz.prog 127 #[v] w fun e w'=>e= .returned (.bool P.over)∧w'=w:=by
 obtain⟨D,b,a,rfl,h⟩:=h;have c:=Fl h;clear h;go_in;go_wp2_with fail;go_ret;exact⟨rfl,rfl⟩
theorem JF(h:BQ A w v dv P S):Calls Tryz.prog 126 #[v] w fun e w'=>e= .returned (.int .i64 (Z9 P.tab))∧w'=w:=by
 obtain⟨D,C,B,rfl,h⟩:=h;have F:=Hx h;have HT:=b9 h.tab;obtain⟨t,i⟩:=c7 P.tab;have n:=h.ok.n8;rw[←i]at HT n⊢;obtain⟨G,z,rfl,r,p⟩:=HT.o.form;have x:(t.length:Int)≤8:=by omega
 clear h r p i;go_in;go_wp2_with fail;go_loop [3,4] (fun uv iv=> ∃k:Nat,k≤t.length∧iv= .int .i64 k∧uv= .int .i64 (Z9 (t.take k))) (fun _ iv=>t.length-(intOf iv).toNat)
 case atStart=>exact⟨0,Nat.zero_le _,rfl,rfl⟩
 case round=>
  obtain⟨k,E,rfl,rfl⟩:=hrel;by_cases a:k<t.length
  ·obtain⟨b,s,rfl,m⟩:=HT.o.at a;have HU:=b9 (iN a);obtain⟨y,g⟩:=c7 (tn t k);rw[←g]at m HU;have f:Z9 (t.take k)≤8:=Nat.le_trans (MW _) (by rw[List.length_take];omega);obtain⟨q,j⟩:=c7 (Z9 (t.take k));rw[←j]at HU f⊢;clear g j;by_cases d:y=0
   ·rw[if_pos d]at HU;subst d;go_wp2_with fail;go_round
    case rel=>exact⟨k+1,a,by simp,by rw[HU.o];rfl⟩
    case measure=>simp[intOf];omega
   ·rw[if_neg d]at HU;have u:((y:Int) !=0)=true:=by simp;omega
    clear d;go_wp2_with fail;go_round
    case rel=>exact⟨k+1,a,by simp,by rw[HU.o];simp⟩
    case measure=>simp[intOf];omega
  ·have c:t.take k=t:=List.take_of_length_le (by omega);have HK:c6 (t.take k=t):=c;have l: ¬(k:Int)<(t.length:Int):=by omega
   clear c;go_wp2_with fail;go_ret;exact⟨by rw[HK.o];rfl,rfl⟩
theorem NY{k:Nat}(hk:k≤ps.length){p:Int}:p∈rQ ps k↔ ∃(i:Nat) (h:i<ps.length),i<k∧ps[i].1=p:=by
 unfold rQ;rw[List.mem_map];constructor
 ·rintro⟨q,a,e⟩;obtain⟨i,b,c⟩:=List.getElem_of_mem a;rw[List.length_take]at b;exact⟨i,by omega,by omega,by rw[←e,←c,List.getElem_take]⟩
 ·rintro⟨i,f,d,e⟩;exact⟨ps[i],by rw[List.mem_iff_getElem];exact⟨i,by rw[List.length_take];omega,by rw[List.getElem_take]⟩,e⟩
theorem iS(h:MQ A D w pb tv dv P S)(hl:Tx A w lv ps):Calls Tryz.prog 99 #[.pointer (some ⟨pb,0,none⟩),lv] w fun e w'=>e= .returned (.int .i64 (x9 P.tab.length ps))∧w'=w:=by
 have HL:=b9 hl;obtain⟨lo,lc,rfl,M,s⟩:=hl.form;have c0:(ps.length:Int)≤9223372036854775807:=by simp only[maxLen]at s;omega
 have c1:=Hx h;obtain⟨t,O⟩:=c7 P.tab;have J:=h.tab;have Q:=h.ok.n8;rw[←O]at J Q⊢;obtain⟨to',tc,rfl,_,_⟩:=J.form;have b0:(t.length:Int)≤8:=by omega
 obtain⟨F,K⟩:=c7 (x9 t.length ps);have HF:=b9 K;rw[←K];clear h hl M s O J Q K;go_in;go_wp2_with fail;go_loop [5] (fun iv=> ∃k:Nat,k≤ps.length∧iv= .int .i64 k∧F=K2 t.length (rQ ps k) (ps.drop k)) (fun iv=>ps.length-(intOf iv).toNat)
 case atStart=>exact⟨0,Nat.zero_le _,rfl,HF.o⟩
 case round=>
  obtain⟨k,hk,rfl,z⟩:=hrel;have f:=b9 z;clear z HF;by_cases a:k<ps.length
  ·obtain⟨b,a0,u,rfl,_,l0,l1,n⟩:=HL.o.at a;obtain⟨p,I⟩:=c7 (ps[k].1);obtain⟨d,hd⟩:=c7 (ps[k].2);rw[←I]at l0;rw[←hd]at n;have HP:=b9 I;have E:=b9 hd;obtain⟨uo,uc,rfl,_,_⟩:=C9 n.1;have X:(k:Int)<(ps.length:Int):=by omega
   clear I hd n;by_cases l:p<0
   ·have HE:c6 (F=91):=by show _=_;rw[f.o];exact kN a (.inl (by rw[←HP.o];exact l))
    go_wp2_with fail
    (try simp only[Exit.inBlock,Exit.then])
    go_ret;exact⟨by rw[HE.o];rfl,rfl⟩
   ·have U:=decide_eq_false l;by_cases g:(t.length:Int)≤p
    ·have HE:c6 (F=91):=by show _=_;rw[f.o];exact kN a (.inr (by rw[←HP.o];exact g))
     go_wp2_with fail
     (try simp only[Exit.inBlock,Exit.then])
     go_ret;exact⟨by rw[HE.o];rfl,rfl⟩
    ·have R:=decide_eq_false g;have q:c6 (¬(ps[k].1<0∨(t.length:Int)≤ps[k].1)):=by show¬_;rw[←HP.o];omega
     have T:p<(t.length:Int):=by omega
     have W:(0:Int)≤p:=by omega
     clear l g;go_wp2_with fail;go_loop [7] (fun jv=> ∃j:Nat,j≤k∧jv= .int .i64 j∧ ∀(i:Nat) (h:i<ps.length),i<j→ps[i].1≠p) (fun jv=>k-(intOf jv).toNat)
     case atStart=>exact⟨0,Nat.zero_le _,rfl,fun i _ hi=>by omega⟩
     case round=>
      obtain⟨j,hj,rfl,r⟩:=hrel;have HN:=b9 r;clear r;by_cases x:j<k
      ·have v:j<ps.length:=by omega
       obtain⟨b',off',u',e1,_,Z,_,_⟩:=HL.o.at v
       cases e1
       obtain⟨y,H⟩:=c7 (ps[j].1);rw[←H]at Z;have HY:=b9 H.symm;have G:(j:Int)<(k:Int):=by omega
       have Y:(j:Int)<(ps.length:Int):=by omega
       clear H;by_cases c:y=p
       ·have HE:c6 (F=93):=by show _=_;rw[f.o];exact pN a q.o ((NY (by omega)).2 ⟨j,v,x,by rw[HY.o,c,HP.o]⟩)
        have L:(y==p)=true:=by simp[c]
        clear c;go_wp2_with fail
        (try simp only[Exit.inBlock,Exit.then])
        go_ret;exact⟨by rw[HE.o];rfl,rfl⟩
       ·have HE:c6 (∀(i:Nat) (h:i<ps.length),i<j+1→ps[i].1≠p):=fun i h hi=>by
         by_cases e:i=j
         ·subst e;rw[HY.o];exact c
         ·exact HN.o i h (by omega)
        have L:(y==p)=false:=by simp[c]
        clear c;go_wp2_with fail;go_round
        case rel=>exact⟨j+1,x,by simp,HE.o⟩
        case measure=>simp[intOf];omega
      ·have G: ¬(j:Int)<(k:Int):=by omega
       have C:c6 (ps[k].1∉rQ ps k):=fun m=>by
        obtain⟨i,h1,h2,e⟩:=(NY (by omega)).1 m;exact HN.o i h1 (by omega) (by rw[e,←HP.o])
       by_cases B:1024<d.length
       ·have HE:c6 (F=6):=by show _=_;rw[f.o];exact sQ a q.o C.o (by rw[←E.o];exact B)
        have N:(1024:Int)<(d.length:Int):=by omega
        go_wp2_with fail
        (try simp only[Exit.inBlock,Exit.then])
        go_ret;exact⟨by rw[HE.o];rfl,rfl⟩
       ·have HE:c6 (F=K2 t.length (rQ ps (k+1)) (ps.drop (k+1))):=by show _=_;rw[f.o];exact sP a q.o C.o (by rw[←E.o];exact B)
        have N:(d.length:Int)≤1024:=by omega
        go_wp2_with fail;go_round
        case rel=>exact⟨k+1,a,by simp,HE.o⟩
        case measure=>simp[intOf];omega
  ·have HE:c6 (F=0):=by show _=_;rw[f.o];exact wF (by omega)
   have d0: ¬(k:Int)<(ps.length:Int):=by omega
   go_wp2_with fail;go_ret;exact⟨by rw[HE.o];rfl,rfl⟩
end
end
section
section

variable{A D:n9}{w w':d9}{v dv tv lv:Value}{P P':Bo}{S S':Dk}{pb:Nat}{ps:List (Int × f7)}

theorem iR(h:BQ A w v dv P S)(p:Int)(hrd:S.rd<9223372036854775807):Calls Tryz.prog 104 #[v,.int .i64 p] w fun e w'=>Gt UG 139 91 A w v dv P S p e w':=by
 obtain⟨D,f,tv,rfl,h⟩:=h;have HM:=b9 h;have R:=b9 hrd
 cases hs:i6 P S
 ·have HS:=b9 hs;have U:=Jx h;have T:=Hx h;obtain⟨t,q⟩:=c7 P.tab;have u:=h.tab;have H:=h.ok.n8;rw[←q]at u H;obtain⟨ao,Q,rfl,B,z⟩:=u.form;have Y:(t.length:Int)≤8:=by omega
  cases g:fV P.tab.length p
  ·have HP:=b9 g
   have k:p<0∨(t.length:Int)≤p:=by
    rw[←q]at g;have:=of_decide_eq_false g;omega
   clear h hs g hrd q u H B z;rcases k with k|k
   ·go_in;go_wp2_with fail;refine(U8 HM.o HS.o).mono ?_;rintro e E ⟨rfl,c⟩;have c:=c.symm;subst c;go_wp2_with fail;go_ret2;exact zK HS.o HP.o HM.o (Ch.refl _ _)
   ·have x:(0:Int)≤p:=by omega
    have Z:decide (p<(0:Int))=false:=decide_eq_false (by omega);go_in;go_wp2_with fail;refine(U8 HM.o HS.o).mono ?_;rintro e E ⟨rfl,c⟩;have c:=c.symm;subst c;go_wp2_with fail;go_ret2;exact zK HS.o HP.o HM.o (Ch.refl _ _)
  ·have HP:=b9 g;obtain⟨x,J⟩:=LH g;rw[←q]at J;obtain⟨n,rfl⟩: ∃n:Nat,p=n:=⟨p.toNat,by omega⟩;obtain⟨b,j,rfl,G⟩:=u.at (i:=n) (by omega);have C:=b9 q;obtain⟨y,F⟩:=c7 (tn t n);rw[←F]at G;have HY:=b9 F;have a0:(n:Int)<(t.length:Int):=by omega
   have b0:decide ((t.length:Int)≤(n:Int))=false:=decide_eq_false (by omega);have m:c6 (¬D f∧ ¬D b):=⟨h.nb,(h.at' b (by simp[Value.ownBlock])).2.1⟩;have HD:=b9 h.dsk;clear h hs g x B z q F hrd H u;by_cases d:y=0
   ·have l:=b9 d;have I:((y:Int)==0)=true:=by simp[d]
    clear d;go_in;go_wp2_with fail;refine(U8 HM.o HS.o).mono ?_;rintro e E ⟨rfl,c⟩;have c:=c.symm;subst c;go_wp2_with fail;go_ret2;exact ON HS.o HP.o (by rw[←C.o,Int.toNat_natCast,←HY.o];exact l.o) HM.o (Ch.refl _ _)
   ·have l:=b9 d;have I:((y:Int)==0)=false:=by simp;omega
    have j0: ∀wx,Ch D w wx→wx.cell? ⟨f,0,none⟩=some dv:=fun wx s=>by rw[World.cell?_of_block (w:=w) (a:=⟨f,0,none⟩) (s.block f (c8 U) m.o.1)];exact U
    have j1: ∀wx,Ch D w wx→wx.cell? ⟨f,1,none⟩=some (.slice (some ⟨b,j,none⟩) t.length Q):=fun wx s=>by rw[World.cell?_of_block (w:=w) (a:=⟨f,1,none⟩) (s.block f (c8 T) m.o.1)];exact T
    have j2: ∀wx,Ch D w wx→wx.cell? ⟨b,j+n,none⟩=some (.int .i64 y):=fun wx s=>by rw[World.cell?_of_block (w:=w) (a:=⟨b,j+n,none⟩) (s.block b (c8 G) m.o.2)];exact G
    have d0:Ch D w w.drew:=Ch.of_below (d8 _ _);clear d;go_in;go_wp2_with fail;refine(U8 HM.o HS.o).mono ?_;rintro e E ⟨rfl,c⟩;have c:=c.symm;subst c;go_wp2_with fail
    go_region_held3 (fun wx=>Ch D w wx) (first|assumption)
     (first
      |(go_at_call 102;refine(jX (HD.o.below (d8 _ _)) y R.o).mono ?_;rintro e W ⟨r,rfl,X,M,N⟩;have K:Ch D w W:=Ch.self (by assumption) N))
    all_goals go_wp2_with fail
    all_goals go_ret2
    all_goals exact OM HS.o HP.o (by rw[←C.o,Int.toNat_natCast];exact HY.o) l.o HM.o (I5 _) X M K
 ·have HS:=b9 hs;clear h hs hrd;go_in;go_wp2_with fail;refine(pE HM.o HS.o).mono ?_;rintro e w1 ⟨rfl,L,O⟩;go_wp2_with fail;go_ret2;exact OL HS.o L O
end

theorem jW{w:d9}{v:Value}{t:f7}{g:Nat}(h:Tw w v t)(h8:t.length≤8)(ht: ∀x∈t,x<64)(hg:g<9223372036854775808):
  Calls Tryz.prog 95 #[.int .i64 g,v] w fun e w'=>Rb w g t e w':=by
 have HT:=b9 h;have HN:c6 (10+10*(ib t).length≤140737488355328):=by show _≤_;rw[i8];omega
 have A:=b9 (Fp ht);have B:=b9 ht;have HG:c6 (g<18446744073709551616):=by show _<_;omega
 have C:c6 ((k9 g t).length≤100):=bN h8;have O:=b9 h8;have Q:(g:Int)<9223372036854775808:=by omega
 have P:IntKind.u64.wrap (g:Int)=(g:Int):=by rw[IntKind.wrap_u64];omega
 clear h ht hg h8;go_in;go_wp2_with fail;refine(JP HT.o HN.o A.o).mono ?_;rintro e G ⟨K,rfl,f,q⟩;rw[DI]at f⊢;have b:=b9 q
 have i:c6 (Bv G K (Wm.enc t.length++Wm.encAll t)):=p7 f (fun c k=>by
  rcases List.mem_append.1 k with k|k
  ·exact Wm.enc_lt _ (by have:=O.o;omega) c k
  ·exact kP t (fun x u=>by have:=B.o x u;omega) c k)
 clear f q;go_wp2_with fail;refine(D7 g HG.o _).mono ?_;rintro e R ⟨S,rfl,d,p⟩;have r:=b9 d;have a:=b9 p;have j:c6 ((Wm.enc g).length+(Wm.enc t.length++Wm.encAll t).length=(k9 g t).length):=by show _=_;unfold k9;simp
 obtain⟨L,y⟩:=c7 (Wm.enc t.length++Wm.encAll t);have E:c6 (Wm.enc g++L=k9 g t):=by show _=_;rw[y];unfold k9;simp
 rw[←y]at i j;have s:c6 (L.length≤100∧(Wm.enc g).length≤100):=by have l:=j.o;have H:=C.o;exact⟨by omega,by omega⟩
 have z:=b9 ((i.o.below a.o).1);obtain⟨X,U,N,_⟩:=C9 i.o;obtain⟨W,T,M,_⟩:=K9 d;subst N;subst M;clear y d p;go_wp2_with (at_builtin;refine g7 (by rfl) _ _ 75 (by rfl) G.heap.size 5 .u8 1 Tryz.underlying75 t9 _ _ _ (by rfl) r.o _ (ib L) (by rfl) z.o (by have:=s.o;simp only[maxLen,i8];omega) (by have:=s.o;rw[i8];omega) (by have:=a.o.size;omega) ?_;intro J I m n)
 have D:c6 (I.ownsRow w.heap.size 5 1 J (k9 g t).length (cb (k9 g t))):=by
  have l:=bU m b.o.size;rw[←List.map_append,←o7,E.o,i8,j.o]at l;exact l
 have F:=b9 ((a9 b.o a.o).grown n (by have l:=b.o.size;have H:=a.o.size;omega) (fun x u=>by have l:=b.o.size;have H:=(r.o.lt x u).1;omega));clear m n;go_wp2_with fail;go_ret;exact⟨_,rfl,D.o,F.o⟩
def Rk(w:d9)(b:f7)(B:Nat)(e:Ending)(w':d9):Prop:=
 (m8 b B=none→e= .returned (.tuple #[.int .i64 0,.slice none 0 0]))∧(∀g t,m8 b B=some (g,t)→ ∃ao cap,e= .returned (.tuple #[.int .i64 g,.slice ao t.length cap])∧Tw w' (.slice ao t.length cap) t∧ ∀x,(Value.slice ao t.length cap).ownBlock=some x→w.heap.size≤x)∧f8 w w'
theorem gS{w w':d9}{b:f7}{B:Nat}(h:m8 b B=none)(hB:f8 w w'):Rk w b B (.returned (.tuple #[.int .i64 0,.slice none 0 0])) w':=
 ⟨fun _=>rfl,(fun g t e=>by rw[h]at e;cases e),hB⟩
theorem Hg{w w':d9}{b t:f7}{B g:Nat}{ao:Option Addr}{cap:Nat}(h:m8 b B=some (g,t))(hT:Tw w' (.slice ao t.length cap) t)(hn: ∀x,(Value.slice ao t.length cap).ownBlock=some x→w.heap.size≤x)(hB:f8 w w'):
  Rk w b B (.returned (.tuple #[.int .i64 g,.slice ao t.length cap])) w':=
 ⟨(fun e=>by rw[h]at e;cases e),(fun g' t' e=>by rw[h]at e;cases e;exact⟨ao,cap,rfl,hT,hn⟩),hB⟩
theorem DU{t:f7}{i x:Nat}(hi:i≤t.length):x∈t.take i↔ ∃k,k<i∧tn t k=x:=by
 rw[KS,List.length_take];constructor
 ·rintro⟨k,a,e⟩;exact⟨k,by omega,by rw[←e,aA (by omega),aA (by rw[List.length_take];omega),List.getElem_take]⟩
 ·rintro⟨k,a,e⟩;exact⟨k,by omega,by rw[←e,aA (by rw[List.length_take];omega),aA (by omega),List.getElem_take]⟩
end
theorem gO{w:d9}{v:Value}{b:f7}(h:Bv w v b)(hl:b.length≤1024){B:Nat}(hB:B≤64):
  Calls Tryz.prog 103 #[v,.int .i64 B] w fun e w'=>Rk w b B e w':=by
 have HV:c6 (Bv w v b):=h;have HL:c6 (b.length≤1024):=hl;have j1:c6 (B≤64):=hB;have i1:(B:Int)≤64:=by omega
 obtain⟨bo,bc,rfl,N,i0⟩:=C9 h;have f1:(b.length:Int)≤1024:=by omega
 have g1:(b.length:Int)≤(bc:Int):=by omega
 have N0:c6 (b.length≤bc):=N;have M0:c6 (∀c∈b,c<256):=h.2;rcases Wm.take_form b h.2 with ⟨er,M,j0⟩|⟨g,p,X,hx,C0,a0,v0⟩
 ·have L0:c6 (Wm.take b=(0,0,er)):=M;have a:c6 (m8 b B=none):=nZ M j0;clear h hl hB N i0 M;rcases j0 with rfl|rfl
  all_goals
   go_in;go_wp2_with fail;refine(z8 HV.o).mono ?_;rintro e U ⟨s,d⟩;have d:=d.symm;subst d;rw[J2 L0.o]at s;subst s;go_wp2_with fail;go_ret2;exact gS a.o (I5 _)
 ·have HT:c6 (Wm.take b=(g,p,0)):=X;have HP:c6 (p≤b.length):=a0;have Z0:(p:Int)≤(b.length:Int):=by omega
  clear h hl hB N i0 X v0 hx C0 a0;by_cases d0:(g:Int)<1
  ·have a:c6 (m8 b B=none):=gQ HT.o (.inl (by omega));go_in;go_wp2_with fail;refine(z8 HV.o).mono ?_;rintro e U ⟨s,d⟩;have d:=d.symm;subst d;rw[J2 HT.o]at s;subst s;go_wp2_with fail;go_ret2;exact gS a.o (I5 _)
  ·have U0:1≤(g:Int):=by omega
   have T0:decide ((g:Int)<1)=false:=decide_eq_false d0;clear d0;by_cases c0:(1099511627776:Int)<(g:Int)
   ·have a:c6 (m8 b B=none):=gQ HT.o (.inr (by omega));go_in;go_wp2_with fail;refine(z8 HV.o).mono ?_;rintro e U ⟨s,d⟩;have d:=d.symm;subst d;rw[J2 HT.o]at s;subst s;go_wp2_with fail;go_ret2;exact gS a.o (I5 _)
   ·have HG:c6 (1≤g∧g≤1099511627776):=⟨by omega,by omega⟩;have S0:decide ((1099511627776:Int)<(g:Int))=false:=decide_eq_false c0;have b1:(g:Int)≤1099511627776:=by omega
    clear c0;obtain⟨t,n,er,Z⟩: ∃t n er,Wm.takeNums (b.drop p) 8=(t,n,er):=⟨_,_,_,rfl⟩;have HN:c6 (Wm.takeNums (b.drop p) 8=(t,n,er)):=Z;have Q:c6 ((b.drop p).length*8≤140737488355328):=by show _≤_;rw[List.length_drop];have:=HL.o;omega
    clear Z;by_cases E:bc=p
    ·have P:c6 (b.length≤p):=by show _≤_;have:=N0.o;omega
     have p0:c6 (bc=p):=E
     have h3:er=3:=by
      have hh:=HN.o;rw[List.drop_eq_nil_of_le P.o]at hh;have:Wm.takeNums [] 8=([],0,3):=rfl;rw[this]at hh;simp only[Prod.mk.injEq]at hh;exact hh.2.2.symm
     subst h3;have a:c6 (m8 b B=none):=dO HT.o HN.o (by omega);clear E;go_in;go_wp2_with fail;refine(z8 HV.o).mono ?_;rintro e U ⟨s,d⟩;have d:=d.symm;subst d;rw[J2 HT.o]at s;subst s;have E:=p0.o;have d1:b.length=p:=by have:=P.o;omega
     clear p0;subst E;go_wp2_with fail;refine(bL 8 (Bv.cutEnd (ao:=bo) P.o) Q.o (by omega)).mono ?_;rw[HN.o];rintro e T ⟨ao,J,rfl,H,u,r⟩;simp only at H r⊢;have l:=b9 u;clear H r u;go_wp2_with fail;go_ret2;exact gS a.o l.o
    ·by_cases f0:er=0
     ·subst f0;have o0:c6 (n≤(b.drop p).length∧t.length≤8):=rT (fun c hc=>M0.o c (List.mem_of_mem_drop hc)) HN.o;have Y0:(p:Int)+(n:Int)≤(b.length:Int):=by have h1:=o0.o.1;rw[List.length_drop]at h1;omega
      have X0:(t.length:Int)≤8:=by have:=o0.o.2;omega
      go_in;go_wp2_with fail;refine(z8 HV.o).mono ?_;rintro e U ⟨s,d⟩;have d:=d.symm;subst d;rw[J2 HT.o]at s;subst s;go_wp2_with fail;refine(bL 8 (HV.o.cutFrom p HP.o E) Q.o (by omega)).mono ?_;rw[HN.o];rintro e T ⟨ao,J,rfl,H,u,r⟩;simp only[i8]at H r⊢;have HS:c6 (Tw T (.slice ao t.length J) t):=H;have J0:c6 (∀x,(Value.slice ao t.length J).ownBlock=some x→w.heap.size≤x):=r;have l:=b9 u;clear H r u;by_cases I:p+n=b.length
      ·have K0:c6 (p+n=b.length):=I;have D0:((p:Int)+(n:Int) !=(b.length:Int))=false:=by simp;omega
       clear I;by_cases B0:t.length<1
       ·have a:c6 (m8 b B=none):=bM HT.o HN.o (gG (fun h=>by have:=h.1;omega));have s0:(t.length:Int)<1:=by omega
        go_wp2_with fail;go_ret2;exact gS a.o l.o
       ·have s0:(1:Int)≤(t.length:Int):=by omega
        have Q0:decide ((t.length:Int)<(1:Int))=false:=decide_eq_false (by omega);by_cases H0:B<2+2*t.length
        ·have a:c6 (m8 b B=none):=bM HT.o HN.o (gG (fun h=>by have:=h.2.1;omega));have w0:(B:Int)<2+2*(t.length:Int):=by omega
         go_wp2_with fail;go_ret2;exact gS a.o l.o
        ·have w0:2+2*(t.length:Int)≤(B:Int):=by omega
         have V0:decide ((B:Int)<2+2*(t.length:Int))=false:=decide_eq_false (by omega);have L:c6 (1≤t.length∧2+2*t.length≤B):=⟨by omega,by omega⟩;clear B0 H0;go_wp2_with fail;go_loopw [11] (fun iv wr=> ∃k:Nat,k≤t.length∧iv= .int .i64 k∧(∀i,i<k→UC t B i)∧f8 T wr) (fun iv _=>t.length-(intOf iv).toNat)
         case atStart=>exact⟨0,Nat.zero_le _,rfl,fun i W=>by omega,I5 _⟩
         case round=>
          obtain⟨k,hk,rfl,K,h0⟩:=hrel;have R:=b9 K;have A:=b9 h0;clear K h0;by_cases D:k<t.length
          ·obtain⟨tb,W0,rfl,hc⟩:=(HS.o.below A.o).at D;have l0:=b9 (HS.o.below A.o);obtain⟨y,hy⟩:=c7 (tn t k);rw[←hy]at hc;have HY:c6 (tn t k=y):=hy.symm;have F0:(k:Int)<(t.length:Int):=by omega
           clear hy;by_cases G:y=0
           ·have HE:c6 (∀i,i<k+1→UC t B i):=fun i W=>by
             by_cases e:i=k
             ·subst e;exact .inl (by rw[HY.o];exact G)
             ·exact R.o i (by omega)
            have y0:((y:Int)==0)=true:=by simp[G]
            clear G;go_wp2_with fail;go_roundw
            case rel=>exact⟨k+1,D,by simp,HE.o,A.o⟩
            case measure=>simp[intOf];omega
           ·have y0:((y:Int)==0)=false:=by simp;omega
            have O:c6 (y≠0):=G;clear G;by_cases A0:y<2
            ·have a:c6 (m8 b B=none):=bM HT.o HN.o (gG (fun h=>by rcases h.2.2 k D with e|e;rw[HY.o]at e;exact O.o e;rw[HY.o]at e;omega));have r0:(y:Int)<2:=by omega
             have f:=b9 (a9 l.o A.o);go_wp2_with fail
             (try simp only[Exit.inBlock,Exit.then])
             go_ret2;exact gS a.o f.o
            ·have r0:(2:Int)≤(y:Int):=by omega
             have P0:decide ((y:Int)<(2:Int))=false:=decide_eq_false (by omega);by_cases z0:B≤y
             ·have a:c6 (m8 b B=none):=bM HT.o HN.o (gG (fun h=>by rcases h.2.2 k D with e|e;rw[HY.o]at e;exact O.o e;rw[HY.o]at e;omega));have q0:(B:Int)≤(y:Int):=by omega
              have f:=b9 (a9 l.o A.o);go_wp2_with fail
              (try simp only[Exit.inBlock,Exit.then])
              go_ret2;exact gS a.o f.o
             ·have q0:(y:Int)<(B:Int):=by omega
              have O0:decide ((B:Int)≤(y:Int))=false:=decide_eq_false (by omega);have k0:c6 (2≤y∧y<B):=⟨by omega,by omega⟩;clear A0 z0;go_wp2_with fail;go_loopw [12] (fun jv wx=> ∃j:Nat,j≤k∧jv= .int .i64 j∧(∀i,i<j→tn t i≠y)∧f8 T wx) (fun jv _=>k-(intOf jv).toNat)
              case atStart=>exact⟨0,Nat.zero_le _,rfl,fun i W=>by omega,A.o⟩
              case round=>
               obtain⟨j,hj,rfl,Y,g0⟩:=hrel;have n0:=b9 Y;have f:=b9 g0;clear Y g0;by_cases b0:j<k
               ·have G0:j<t.length:=by omega
                obtain⟨tb',off',e1,m0⟩:=(HS.o.below f.o).at G0
                cases e1
                obtain⟨_,_,e2,m1⟩:=(HS.o.below f.o).at D
                cases e2
                rw[HY.o]at m1;obtain⟨z,hz⟩:=c7 (tn t j);rw[←hz]at m0;have HZ:c6 (tn t j=z):=hz.symm;have t0:(j:Int)<(k:Int):=by omega
                have R0:(j:Int)<(t.length:Int):=by omega
                clear hz;by_cases F:z=y
                ·have a:c6 (m8 b B=none):=bM HT.o HN.o (gG (fun h=>by
                  rcases h.2.2 k D with e|e
                  ·rw[HY.o]at e;exact O.o e
                  ·exact e.2.2 ((DU (by omega)).2 ⟨j,b0,by rw[HZ.o,HY.o];exact F⟩)))
                 have x0:((z:Int)==(y:Int))=true:=by simp[F]
                 clear F;go_wp2_with fail;go_quiet (fail);obtain⟨wq,C⟩:=c7 (wr.drewN nq);rw[←C];have S:c6 (f8 w wq):=by show Below _ _ _;rw[C];exact a9 (a9 l.o f.o) (d8 _ _)
                 clear C;go_wp2_with fail
                 (try simp only[Exit.inBlock,Exit.then])
                 go_ret2;exact gS a.o S.o
                ·have HE:c6 (∀i,i<j+1→tn t i≠y):=fun i W=>by
                  by_cases e:i=j
                  ·subst e;rw[HZ.o];exact F
                  ·exact n0.o i (by omega)
                 have x0:((z:Int)==(y:Int))=false:=by simp;omega
                 clear F;go_wp2_with fail;go_quiet (fail);obtain⟨wq,C⟩:=c7 (wr.drewN nq);rw[←C];have S:c6 (f8 T wq):=by show Below _ _ _;rw[C];exact a9 f.o (d8 _ _)
                 clear C;go_wp2_with fail;go_roundw
                 case rel=>exact⟨j+1,b0,by simp,HE.o,S.o⟩
                 case measure=>simp[intOf];omega
               ·have t0: ¬(j:Int)<(k:Int):=by omega
                have HE:c6 (∀i,i<k+1→UC t B i):=fun i W=>by
                 by_cases e:i=k
                 ·subst e;refine .inr ⟨by rw[HY.o];exact k0.o.1,by rw[HY.o];exact k0.o.2,fun m=>?_⟩;obtain⟨q,h1,h2⟩:=(DU (by omega)).1 m;exact n0.o q (by omega) (by rw[h2,HY.o])
                 ·exact R.o i (by omega)
                go_wp2_with fail;go_roundw
                case rel=>exact⟨k+1,D,by simp,HE.o,f.o⟩
                case measure=>simp[intOf];omega
          ·have I0:c6 (m8 b B=some (g,t)):=iQ HT.o HG.o.1 HG.o.2 HN.o K0.o (xH ⟨L.o.1,L.o.2,fun i W=>R.o i (by omega)⟩);have F0: ¬(k:Int)<(t.length:Int):=by omega
           have a1:IntKind.i64.wrap (g:Int)=(g:Int):=dK (by omega) (by omega);have l0:=b9 (HS.o.below A.o);have f:=b9 (a9 l.o A.o);go_wp2_with fail;go_ret2;exact Hg I0.o l0.o J0.o f.o
      ·have a:c6 (m8 b B=none):=rH HT.o HN.o I;have D0:((p:Int)+(n:Int) !=(b.length:Int))=true:=by simp;omega
       clear I;go_wp2_with fail;go_ret2;exact gS a.o l.o
     ·have a:c6 (m8 b B=none):=dO HT.o HN.o f0;have c1:((er:Int) !=0)=true:=by simp;omega
      go_in;go_wp2_with fail;refine(z8 HV.o).mono ?_;rintro e U ⟨s,d⟩;have d:=d.symm;subst d;rw[J2 HT.o]at s;subst s;go_wp2_with fail;refine(bL 8 (HV.o.cutFrom p HP.o E) Q.o (by omega)).mono ?_;rw[HN.o];rintro e T ⟨ao,J,rfl,H,u,r⟩;simp only[i8]at H r⊢;have l:=b9 u;clear H r u;go_wp2_with fail;go_ret2;exact gS a.o l.o
section
theorem yU{F:Value→Value→Bo→Array Value}{TB TD:TypeId}{D:n9}{w wx:d9}{dv tv:Value}{P:Bo}{S':Dk}(hD:I9 TD D wx dv S')(hDl: ∀x,D x→x<w.heap.size)(hT:Tw wx tv P.tab)(htn: ∀x,tv.ownBlock=some x→w.heap.size≤x∧x<wx.heap.size)(hok:P.ok S'.bl.length)(hC:Ch D w wx):
  Ob F TB TD D w dv 0 (some P) S' (.returned (.tuple #[.pointer (some ⟨wx.heap.size,0,none⟩),.int .i64 0])) (wx.alloc (.cells (F tv dv P) TB)):=by
 have b:=hC.size;refine⟨_,rfl,(fun e=>by cases e),(fun P' e=>?_),hC.self (Ch.of_below (a8 _ _))⟩
 cases e
 refine⟨fun x=>D x∨x=wx.heap.size∨tv.ownBlock=some x,⟨D,wx.heap.size,tv,rfl,⟨heap_alloc_new wx _,hT.below (a8 _ _),hD.below (a8 _ _),fun x a=> .inl a,.inr (.inl rfl),fun e=>by have:=hDl _ e;omega,fun x a=>⟨.inr (.inr a),fun e=>by have d:=hDl _ e;have c:=(htn x a).1;omega,by have:=(htn x a).2;omega⟩,fun x a=>?_,hok⟩⟩,fun x a=>?_⟩
 ·rcases a with q|q|q
  ·have:=hDl x q;simp;omega
  ·subst q;simp
  ·have:=(htn x q).2;simp;omega
 ·rcases a with q|q|q
  ·exact .inl q
  ·exact .inr (by omega)
  ·exact .inr (htn x q).1
theorem NV{F:Value→Value→Bo→Array Value}{TB TD:TypeId}{D:n9}{w wx:d9}{dv:Value}{S':Dk}{c:Int}(hD:I9 TD D wx dv S')(hC:Ch D w wx):
  Ob F TB TD D w dv c none S' (.returned (.tuple #[.pointer none,.int .i64 c])) wx:=
 ⟨_,rfl,(fun _=>⟨rfl,D,hD,fun x hx=> .inl hx⟩),(fun P e=>by cases e),hC⟩
theorem WD{S:Dk}(hd:S.down=false)(hb:S.bl.length≤1):M6 (dI S 1) ((1:Nat):Int)=[]∧dI S 2=dI S 1:=by
 have b:=Fe hd 1;have a:I2 (dI S 1) ((1:Nat):Int)=81:=by unfold I2;rw[if_neg (by rw[b.1];simp),if_pos (by rw[b.2];right;show(S.bl.length:Int)≤((1:Nat):Int);omega)]
 refine⟨by unfold M6;rw[if_neg (by rw[a];decide)],?_⟩;show R8 (dI S 1) ((1:Nat):Int)=_;unfold R8;rw[if_neg (by rw[a];decide)]
theorem UT{w:d9}{ao:Option Addr}{cap x:Nat}{t:f7}(h:Tw w (.slice ao t.length cap) t)(h1:1≤t.length)(hx:(Value.slice ao t.length cap).ownBlock=some x):x<w.heap.size:=by
 obtain⟨bb,b,e,a⟩:=h.at (i:=0) h1;subst e;simp[Value.ownBlock]at hx;subst hx;exact c8 a
section

variable{D:n9}{w:d9}{dv:Value}{S:Dk}

theorem JO(h:I9 91 D w dv S)(hd:S.down=true):Calls Tryz.prog 47 #[dv] w fun e w'=>Ob UG 139 91 D w dv (fR S) (pT S) (tN S) e w':=by
 have HD:=b9 h;have d:=b9 hd;have HO:c6 (fR S=80∧pT S=none∧tN S=S):=by unfold fR pT tN;rw[if_pos hd,if_pos hd,if_pos hd];exact⟨rfl,rfl,rfl⟩
 obtain⟨a,c⟩: ∃a,dv= .pointer (some ⟨a,0,none⟩):=by obtain⟨a,_,_,e,_⟩:=h;exact⟨a,e⟩
 rw[HO.o.1,HO.o.2.1,HO.o.2.2];subst c;clear h hd;go_in;go_wp2_with fail;refine(Q5 HD.o).mono ?_;rw[d.o];rintro e f ⟨rfl,b⟩;have b:=b.symm;subst b;go_wp2_with fail;go_ret2;exact NV HD.o (Ch.refl _ _)
theorem VQ(h:I9 91 D w dv S)(hd:S.down=false)(hrd:S.rd<4611686018427387904):Calls Tryz.prog 47 #[dv] w fun e w'=>Ob UG 139 91 D w dv (fR S) (pT S) (tN S) e w':=by
 have HD:=b9 h;have n0:=b9 hd;have K: ¬S.down=true:=by rw[hd];simp
 have HO:c6 (fR S=(if O1 S 2=none then 90 else 0)∧pT S=O1 S 2∧tN S=dI S 2):=by unfold fR pT tN;rw[if_neg K,if_neg K,if_neg K];exact⟨rfl,rfl,rfl⟩
 obtain⟨Z,y0⟩: ∃Z,dv= .pointer (some ⟨Z,0,none⟩):=by obtain⟨Z,_,_,e,_⟩:=h;exact⟨Z,e⟩
 have HG:c6 S.ok:=h.good;have k0:=b9 hrd;have F:c6 (∀x,D x→x<w.heap.size):=fun x k=>h.lt k;rw[HO.o.1,HO.o.2.1,HO.o.2.2];obtain⟨o,ho⟩:=c7 (O1 S 2);rw[←ho];have K0:=b9 ho;obtain⟨c,hc⟩: ∃c:Int,c=if o=none then 90 else 0:=⟨_,rfl⟩
 rw[←hc];have G:=b9 hc;clear ho hc;subst y0;have T0:(S.bl.length:Int)≤64:=by have:=h.good.n64;omega
 clear h hd hrd K;go_in;go_wp2_with fail;refine(Q5 HD.o).mono ?_;rw[n0.o];rintro e w9 ⟨rfl,n⟩;have n:=n.symm;subst n;go_wp2_with fail;refine(jX HD.o ((0:Nat):Int) (by have:=k0.o;omega)).mono ?_;rintro e Y ⟨r0,rfl,C,d0,g0⟩;obtain⟨a,ha⟩:=c7 (M6 S ((0:Nat):Int));rw[←ha]at C;have W:c6 (a.length≤1024∧ ∀c∈a,c<256):=by rw[ha];exact dQ HG.o _
 have HA:=b9 ha;obtain⟨ao,ac,rfl,_,_⟩:=K9 C;have H0:c6 (Bv (Y.alloc (.cells #[] 5)) (.slice ao a.length ac) a):=(p7 C W.o.2).below (a8 _ _);have C0:c6 (∀x,(Value.slice ao a.length ac).ownBlock=some x→w.heap.size≤x):=fun x k=>(C.lt x k).1;have X:c6 (I9 91 D (Y.alloc (.cells #[] 5)) (.pointer (some ⟨Z,0,none⟩)) (dI S 1)):=I9.below (by exact d0) (a8 _ _);have P0:c6 (Ch D w (Y.alloc (.cells #[] 5))):=g0.self (Ch.of_below (a8 _ _));have M0:c6 (Bv (Y.alloc (.cells #[] 5)) (.slice (some ⟨Y.heap.size,0,none⟩) 0 0) []):=⟨⟨_,0,rfl,Nat.le_refl _,by simp[maxLen],fun e=>rfl,fun i hi=>by simp[ib]at hi⟩,by simp⟩;have L0:=b9 (yL S 1);have J0:c6 ((dI S 1).rd<9223372036854775807):=by show _<_;have h1:=Fb S 1;have h2:=k0.o;omega
 clear ha C d0 g0;go_wp2_with fail;refine(O4 X.o).mono ?_;rw[L0.o];rintro e w9 ⟨rfl,n⟩;subst n;go_upto_if 23 with (fail);go_cut [6] (fun bv wx=> ∃uo uc bb,bv= .slice uo bb.length uc∧Bv wx (.slice uo bb.length uc) bb∧bb=M6 (dI S 1) ((1:Nat):Int)∧I9 91 D wx (.pointer (some ⟨Z,0,none⟩)) (dI S 2)∧Ch D (Y.alloc (.cells #[] 5)) wx)
 case first=>
  by_cases U0:1<S.bl.length
  ·have s0:(1:Int)<(S.bl.length:Int):=by omega
   go_wp2_with fail;refine(jX X.o ((1:Nat):Int) J0.o).mono ?_;rintro e w2 ⟨r1,rfl,J,c0,f0⟩;obtain⟨bb,p⟩:=c7 (M6 (dI S 1) ((1:Nat):Int));rw[←p]at J;have v:c6 (∀c∈bb,c<256):=by rw[p];exact(dQ (NU HG.o _) _).2
   obtain⟨uo,uc,rfl,_,_⟩:=K9 J;have G0:=b9 (p7 J v.o);have Q0:=b9 p;have N0:=b9 c0;have O0:=b9 f0;clear J c0 f0 p;go_wp2_with fail;go_meet;exact⟨uo,uc,bb,rfl,G0.o,Q0.o,N0.o,O0.o⟩
  ·have s0: ¬(1:Int)<(S.bl.length:Int):=by omega
   have j0:=b9 (WD n0.o (by omega));go_wp2_with fail;go_meet;exact⟨_,0,[],rfl,M0.o,j0.o.1.symm,by rw[j0.o.2];exact X.o,Ch.refl _ _⟩
 case rest=>
  obtain⟨uo,uc,bb,rfl,a0,p,b0,R⟩:=hcut;have D0:=b9 a0;have HK:c6 (o=V6 (V6 none (m8 a S.bl.length) 0) (m8 bb S.bl.length) 1):=by show _=_;rw[K0.o,HA.o,p];rfl
  have v:c6 (bb.length≤1024∧ ∀c∈bb,c<256):=by rw[p];exact dQ (NU HG.o _) _
  have o0:=b9 b0;have p0:=b9 (P0.o.self R);have F0:=b9 ((Bx.ch (D:=D) (D':=D) ⟨H0.o,.inr (fun x k e=>by have h1:=F.o x e;have h2:=C0.o x k;omega)⟩ R (fun x k=> .inl k)).1);have u:=b9 (yL S 2);have H:c6 (S.bl.length≤64):=HG.o.n64;clear a0 p b0 R;go_wp2_with fail;refine(O4 o0.o).mono ?_;rw[u.o];rintro e w9 ⟨rfl,n⟩;have n:=n.symm;subst n;go_wp2_with fail;refine(gO F0.o W.o.1 H.o).mono ?_;rintro e w3 ⟨f,d,M⟩;have Q:=b9 (p0.o.self (Ch.of_below M));have O:=b9 (o0.o.below M);have h0:=b9 (D0.o.below M);have I0:=b9 p0.o.size;clear M
  cases s:m8 a S.bl.length with
  |none=>
   have B:=f s;subst B;have E:=b9 s;clear f d s;go_wp2_with fail;refine(O4 O.o).mono ?_;rw[u.o];rintro e w9 ⟨rfl,n⟩;have n:=n.symm;subst n;go_wp2_with fail;refine(gO h0.o v.o.1 H.o).mono ?_;rintro e w4 ⟨f,d,l⟩;have A:=b9 (Q.o.self (Ch.of_below l));have z:=b9 (O.o.below l);clear l
   cases b:m8 bb S.bl.length with
   |none=>
    have B:=f b;subst B;have m:c6 (o=none):=by show _=_;rw[HK.o,E.o,b];rfl
    clear f d b;go_wp2_with fail;go_ret2;rw[G.o,m.o,if_pos rfl];exact NV z.o A.o
   |some q=>
    obtain⟨g,t⟩:=q;obtain⟨to',tc,B,j,r⟩:=d g t b;subst B;have HF:=b9 (gR v.o.2 b);have B0:(1:Int)≤(g:Int):=by have:=HF.o.1;omega
    have A0:(g:Int)≤1099511627776:=by have:=HF.o.2.1;omega
    have z0:((g:Int)==0)=false:=by simp;omega
    have T:=b9 j;have N:c6 (∀x,(Value.slice to' t.length tc).ownBlock=some x→w.heap.size≤x∧x<w4.heap.size):=fun x k=>⟨Nat.le_trans Q.o.size (r x k),UT j HF.o.2.2.2.1 k⟩;have m:c6 (o=some ⟨g,t,1,false⟩):=by show _=_;rw[HK.o,E.o,b];rfl
    clear f d b j r;go_wp2_with fail;go_ret2;rw[G.o,m.o,if_neg (by simp)];exact yU (P:=⟨g,t,1,false⟩) z.o F.o T.o N.o (by rw[u.o];exact⟨HF.o.1,HF.o.2.1,HF.o.2.2.1,HF.o.2.2.2,Nat.le_refl _⟩) A.o
  |some q=>
   obtain⟨g,t⟩:=q;obtain⟨to',tc,B,j,r⟩:=d g t s;subst B;have HF:=b9 (gR W.o.2 s);have B0:(1:Int)≤(g:Int):=by have:=HF.o.1;omega
   have A0:(g:Int)≤1099511627776:=by have:=HF.o.2.1;omega
   have z0:((g:Int)==0)=false:=by simp;omega
   have T:=b9 j;have N:c6 (∀x,(Value.slice to' t.length tc).ownBlock=some x→w.heap.size≤x∧x<w3.heap.size):=fun x k=>⟨Nat.le_trans I0.o (r x k),UT j HF.o.2.2.2.1 k⟩;have E:=b9 s;clear f d s j r;go_wp2_with fail;refine(O4 O.o).mono ?_;rw[u.o];rintro e w9 ⟨rfl,n⟩;have n:=n.symm;subst n;go_wp2_with fail;refine(gO h0.o v.o.1 H.o).mono ?_;rintro e w4 ⟨f,d,l⟩;have A:=b9 (Q.o.self (Ch.of_below l));have z:=b9 (O.o.below l);have i0:=b9 (T.o.below l);have m0:c6 (∀x,(Value.slice to' t.length tc).ownBlock=some x→w.heap.size≤x∧x<w4.heap.size):=fun x k=>⟨(N.o x k).1,Nat.lt_of_lt_of_le (N.o x k).2 l.size⟩;clear l
   cases b:m8 bb S.bl.length with
   |none=>
    have B:=f b;subst B;have m:c6 (o=some ⟨g,t,0,false⟩):=by show _=_;rw[HK.o,E.o,b];rfl
    clear f d b;have S0: ¬(g:Int)<0:=by omega
    go_wp2_with fail;go_ret2;rw[G.o,m.o,if_neg (by simp)];exact yU (P:=⟨g,t,0,false⟩) z.o F.o i0.o m0.o (by rw[u.o];exact⟨HF.o.1,HF.o.2.1,HF.o.2.2.1,HF.o.2.2.2,Nat.zero_le _⟩) A.o
   |some q2=>
    obtain⟨I,t2⟩:=q2;obtain⟨w0,x0,B,j,r⟩:=d I t2 b;subst B;have y:=b9 (gR v.o.2 b);have R0:(1:Int)≤(I:Int):=by have:=y.o.1;omega
    have t0:=b9 j;have v0:c6 (∀x,(Value.slice w0 t2.length x0).ownBlock=some x→w.heap.size≤x∧x<w4.heap.size):=fun x k=>⟨Nat.le_trans Q.o.size (r x k),UT j y.o.2.2.2.1 k⟩;have l0:c6 (o=V6 (V6 none (some (g,t)) 0) (some (I,t2)) 1):=by show _=_;rw[HK.o,E.o,b]
    clear f d b j r;by_cases L:g<I
    ·have q0:(g:Int)<(I:Int):=by omega
     have U:c6 (V6 (V6 none (some (g,t)) 0) (some (I,t2)) 1=some ⟨I,t2,1,false⟩):=by show _=_;unfold V6;simp only;rw[if_pos L]
     have m:c6 _:=l0.o.trans U.o;clear L;go_wp2_with fail;go_ret2;rw[G.o,m.o,if_neg (by simp)];exact yU (P:=⟨I,t2,1,false⟩) z.o F.o t0.o v0.o (by rw[u.o];exact⟨y.o.1,y.o.2.1,y.o.2.2.1,y.o.2.2.2,Nat.le_refl _⟩) A.o
    ·have q0:(I:Int)≤(g:Int):=by omega
     have U:c6 (V6 (V6 none (some (g,t)) 0) (some (I,t2)) 1=some ⟨g,t,0,false⟩):=by show _=_;unfold V6;simp only;rw[if_neg L]
     have m:c6 _:=l0.o.trans U.o;clear L;go_wp2_with fail;go_ret2;rw[G.o,m.o,if_neg (by simp)];exact yU (P:=⟨g,t,0,false⟩) z.o F.o i0.o m0.o (by rw[u.o];exact⟨HF.o.1,HF.o.2.1,HF.o.2.2.1,HF.o.2.2.2,Nat.zero_le _⟩) A.o
theorem rG(h:I9 91 D w dv S)(hrd:S.rd<4611686018427387904):Calls Tryz.prog 47 #[dv] w fun e w'=>Ob UG 139 91 D w dv (fR S) (pT S) (tN S) e w':=by
 cases hd:S.down
 ·exact VQ h hd hrd
 ·exact JO h hd
end
end
section
theorem Mm{S:Dk}{k:Nat}{b:f7}(hk:k<S.bl.length)(hb:b.length≤1024)(h:l7 S (k:Int) b≠0):l7 S (k:Int) b=80:=by
 unfold l7 at h⊢;by_cases hd:S.down=true
 ·have e:I2 S (k:Int)=80:=by unfold I2;rw[if_pos hd]
  rw[if_pos (by rw[e];decide),e]
 ·have e:I2 S (k:Int)=0:=by unfold I2;rw[if_neg hd,if_neg (by omega)]
  rw[if_neg (fun q=>q e),if_neg (by omega)]at h⊢
  split at h
  ·rename_i a;rw[if_pos a]
  ·exact absurd rfl h
theorem Ce{F:Value→Value→Bo→Array Value}{TB TD:TypeId}{D D':n9}{w wx:d9}{dv:Value}{P:Bo}{S':Dk}{g n cap:Nat}(hD:I9 TD D' wx dv S')(hx: ∀x,D' x→D x∨w.heap.size≤x)(hT:Tw wx (.slice (some ⟨g,0,none⟩) n cap) P.tab)(hg:w.heap.size≤g∧g<wx.heap.size)(hn: ¬D' g){c:Int}(hc:c=0)(hok:P.ok S'.bl.length)(hC:Ch D w wx):
  Ob F TB TD D w dv c (some P) S' (.returned (.tuple #[.pointer (some ⟨wx.heap.size,0,none⟩),.int .i64 0])) (wx.alloc (.cells (F (.slice (some ⟨g,0,none⟩) n cap) dv P) TB)):=by
 subst hc;have d:=hC.size;have b: ∀x,(Value.slice (some ⟨g,0,none⟩) n cap).ownBlock=some x→x=g:=fun x hx=>(Option.some.inj hx).symm;refine⟨_,rfl,(fun e=>by cases e),(fun P' e=>?_),hC.self (Ch.of_below (a8 _ _))⟩
 cases e
 refine⟨fun x=>D' x∨x=wx.heap.size∨x=g,⟨D',wx.heap.size,_,rfl,⟨heap_alloc_new wx _,hT.below (a8 _ _),hD.below (a8 _ _),fun x hx=> .inl hx,.inr (.inl rfl),fun e=>by have:=hD.lt e;omega,fun x hx=>?_,fun x hx=>?_,hok⟩⟩,fun x a=>?_⟩
 ·rw[b x hx];exact⟨.inr (.inr rfl),hn,by omega⟩
 ·rcases hx with q|q|q
  ·have:=hD.lt q;simp;omega
  ·subst q;simp
  ·subst q;simp;omega
 ·rcases a with q|q|q
  ·exact hx x q
  ·exact .inr (by omega)
  ·exact .inr (by omega)
section

variable{D:n9}{w:d9}{dv:Value}{S:Dk}

theorem CD(h:I9 91 D w dv S){n:Int}(hn:n<1∨8<n):Calls Tryz.prog 44 #[dv,.int .i64 n] w fun e w'=>Fm UG 139 91 D w dv S n e w':=by
 have HD:=b9 h;have HF:c6 (F7 S n=(1,none,S)):=by show _=_;unfold F7;rw[if_pos hn]
 obtain⟨a,c⟩: ∃a,dv= .pointer (some ⟨a,0,none⟩):=by obtain⟨a,_,_,e,_⟩:=h;exact⟨a,e⟩
 subst c;clear h;rcases hn with hn|hn
 ·go_in;go_wp2_with fail;go_ret2;exact jO HF.o HD.o (fun x b=> .inl b) (Ch.refl _ _)
 ·have f:(1:Int)≤n:=by omega
  have d:decide (n<(1:Int))=false:=decide_eq_false (by omega);go_in;go_wp2_with fail;go_ret2;exact jO HF.o HD.o (fun x b=> .inl b) (Ch.refl _ _)
theorem JY(h:I9 91 D w dv S){n:Nat}(h1:1≤n)(h8:n≤8)(hwr:S.wr<4611686018427387904):Calls Tryz.prog 44 #[dv,.int .i64 n] w fun e w'=>Fm UG 139 91 D w dv S n e w':=by
 have HD:=b9 h;have HF:c6 (F7 S n=if(S.bl.length:Int)<2+2*(n:Int)then(92,none,S)else if l7 S 1 []≠0 then(80,none,i7 S 1 [])else if l7 (i7 S 1 []) 0 (k9 1 (R3 n))≠0 then(80,none,i7 (i7 S 1 []) 0 (k9 1 (R3 n)))else(0,some ⟨1,R3 n,0,false⟩,i7 (i7 S 1 []) 0 (k9 1 (R3 n)))):=by show _=_;unfold F7;rw[if_neg (by omega),Int.toNat_natCast]
 obtain⟨H,a0⟩: ∃H,dv= .pointer (some ⟨H,0,none⟩):=by obtain⟨H,_,_,e,_⟩:=h;exact⟨H,e⟩
 subst a0;have n0:(S.bl.length:Int)≤64:=by have:=h.good.n64;omega
 have r0:(1:Int)≤(n:Int):=by omega
 have s0:decide ((n:Int)<(1:Int))=false:=decide_eq_false (by omega);have p0:(n:Int)≤8:=by omega
 have q0:decide ((8:Int)<(n:Int))=false:=decide_eq_false (by omega);have a:c6 (1≤n∧n≤8):=⟨h1,h8⟩;have B:=b9 hwr;clear h h1 h8 hwr;by_cases Y:(S.bl.length:Int)<2+2*(n:Int)
 ·have c:c6 (F7 S n=(92,none,S)):=by show _=_;rw[HF.o,if_pos Y]
  go_in;go_wp2_with fail;refine(O4 HD.o).mono ?_;rintro e w9 ⟨rfl,m⟩;have m:=m.symm;subst m;go_wp2_with fail;go_ret2;exact jO c.o HD.o (fun x l=> .inl l) (Ch.refl _ _)
 ·have o0:2+2*(n:Int)≤(S.bl.length:Int):=by omega
  have G:c6 (2+2*n≤S.bl.length):=by show _≤_;omega
  have O:c6 (F7 S n=if l7 S 1 []≠0 then(80,none,i7 S 1 [])else if l7 (i7 S 1 []) 0 (k9 1 (R3 n))≠0 then(80,none,i7 (i7 S 1 []) 0 (k9 1 (R3 n)))else(0,some ⟨1,R3 n,0,false⟩,i7 (i7 S 1 []) 0 (k9 1 (R3 n)))):=by show _=_;rw[HF.o,if_neg Y]
  have U:c6 (Bv w (.slice none 0 0) []):=⟨⟨none,0,rfl,Nat.le_refl _,by simp[maxLen],fun e=>rfl,fun i hi=>by simp[ib]at hi⟩,by simp⟩;clear Y;by_cases f:l7 S 1 []=0
  ·have d0:=b9 f;have N:c6 (F7 S n=if l7 (i7 S 1 []) 0 (k9 1 (R3 n))≠0 then(80,none,i7 (i7 S 1 []) 0 (k9 1 (R3 n)))else(0,some ⟨1,R3 n,0,false⟩,i7 (i7 S 1 []) 0 (k9 1 (R3 n)))):=by show _=_;rw[O.o,if_neg (fun q=>q f)]
   clear f;obtain⟨Z,X⟩:=c7 (madeCells #[.int .i64 0] (n*1));have I:=DW a.o.2;rw[←X]at I;have HZ:=b9 X;clear X;go_in;go_wp2_with fail;refine(O4 HD.o).mono ?_;rintro e w9 ⟨rfl,m⟩;have m:=m.symm;subst m;go_wp2_with fail;refine(Q3 HD.o 1 U.o (by have:=B.o;omega)).mono ?_;rintro e t ⟨rfl,⟨D1,j,p⟩,r⟩;rw[d0.o];have F:=b9 j;have v:=b9 p;have y:=b9 r;have c0:=b9 (OA t a.o.2 HZ.o);have L:c6 (Tw (t.alloc (.cells Z 3)) (.slice (some ⟨t.heap.size,0,none⟩) n n) (R3 n)):=by have:=c0.o.tw;rw[O2]at this;exact this
   have l0:c6 (I9 91 D1 (t.alloc (.cells Z 3)) (.pointer (some ⟨H,0,none⟩)) (i7 S 1 [])):=j.below (a8 _ _);clear j p r;go_wp2_with fail;refine(jW (g:=1) L.o (by rw[O2];exact a.o.2) (fun x l=>by rw[(List.mem_replicate.1 l).2];omega) (by omega)).mono ?_;rintro e w2 ⟨v2,rfl,A,s⟩;have k0:c6 ((k9 1 (R3 n)).length≤1024):=Nat.le_trans (bN (by rw[O2];exact a.o.2)) (by omega);have f0:=b9 (p7 A (eV (by rw[O2];exact a.o.2) (by omega) (fun x l=>by rw[(List.mem_replicate.1 l).2];omega)));have m0:=b9 (l0.o.below s);have h0:=b9 (L.o.below s);have T:c6 (Ch D w w2):=(y.o.self (Ch.of_below (a8 _ _))).self (Ch.of_below s);have E:c6 (t.heap.size<w2.heap.size∧w.heap.size≤t.heap.size):=⟨by have:=s.size;simp at this;omega,y.o.size⟩;obtain⟨ro,rc,b0,_,_⟩:=K9 A;subst b0;clear A s I;go_wp2_with fail;refine(Q3 m0.o ((0:Nat):Int) f0.o (by have h2:=B.o;have h3:=dJ (S:=S) (i:=1) (b:=[]);omega)).mono ?_;rintro e w3 ⟨rfl,⟨D3,J,z⟩,u⟩
   have K:c6 (∀x,D3 x→D x∨w.heap.size≤x):=fun x l=>by
    rcases z x l with q|q
    ·exact v.o x q
    ·exact .inr (Nat.le_trans T.o.size q)
   have R:=b9 (T.o.trans u (fun x l=>v.o x l));have Q:=b9 J;have M:c6 (¬D1 t.heap.size):=fun e=>by have:=F.o.lt e;omega
   have g0:c6 (Tw w3 (.slice (some ⟨t.heap.size,0,none⟩) n n) (R3 n)):=h0.o.ch (fun x l=>by
    simp[Value.ownBlock]at l;subst l;exact u.block _ E.o.1 M.o)
   have W:c6 (¬D3 t.heap.size):=fun e=>by
    rcases z _ e with q|q
    ·exact M.o q
    ·have:=E.o.1;omega
   have i0:=b9 u.size;have j0:c6 ((i7 (i7 S 1 []) ((0:Nat):Int) (k9 1 (R3 n))).bl.length=S.bl.length):=by show _=_;rw[C6,C6]
   clear J z u;by_cases d:l7 (i7 S 1 []) ((0:Nat):Int) (k9 1 (R3 n))=0
   ·have c:c6 (F7 S n=(0,some ⟨1,R3 n,0,false⟩,i7 (i7 S 1 []) ((0:Nat):Int) (k9 1 (R3 n)))):=by show _=_;rw[N.o];exact if_neg (fun q=>q d)
    rw[d];clear d;go_wp2_with fail;go_ret2;unfold Fm;rw[c.o];refine Ce (P:=⟨1,R3 n,0,false⟩) Q.o K.o (by have h:=g0.o;rw[←O2 n]at h;rw[O2]at h;exact h) ?_ W.o rfl (by rw[j0.o];exact wV a.o.1 a.o.2 G.o) R.o;have:=E.o;have:=i0.o;exact⟨by omega,by omega⟩
   ·have C:c6 (l7 (i7 S 1 []) ((0:Nat):Int) (k9 1 (R3 n))=80):=Mm (by rw[C6];have:=G.o;omega) k0.o d;have c:c6 (F7 S n=(80,none,i7 (i7 S 1 []) ((0:Nat):Int) (k9 1 (R3 n)))):=by show _=_;rw[N.o];exact if_pos d
    rw[C.o];clear d;go_wp2_with fail;go_ret2;exact jO c.o Q.o K.o R.o
  ·have C:c6 (l7 S 1 []=80):=Mm (k:=1) (by have:=G.o;omega) (by simp) f;have c:c6 (F7 S n=(80,none,i7 S 1 [])):=by show _=_;rw[O.o,if_pos f]
   clear f;go_in;go_wp2_with fail;refine(O4 HD.o).mono ?_;rintro e w9 ⟨rfl,m⟩;have m:=m.symm;subst m;go_wp2_with fail;refine(Q3 HD.o 1 U.o (by have:=B.o;omega)).mono ?_;rintro e t ⟨rfl,⟨D1,j,p⟩,r⟩;rw[C.o];have F:=b9 j;have v:=b9 p;have y:=b9 r;clear j p r;go_wp2_with fail;go_ret2;exact jO c.o F.o v.o y.o
theorem xY(h:I9 91 D w dv S)(n:Int)(hwr:S.wr<4611686018427387904):Calls Tryz.prog 44 #[dv,.int .i64 n] w fun e w'=>Fm UG 139 91 D w dv S n e w':=by
 by_cases a:n<1∨8<n
 ·exact CD h a
 ·obtain⟨k,rfl⟩: ∃k:Nat,n=k:=⟨n.toNat,by omega⟩;exact JY h (by omega) (by omega) hwr
end
end
section
theorem LI.perm{tab t tk tk':f7}{b B:Nat}(h:LI tab t tk b B)(hm: ∀x,x∈tk↔x∈tk'):LI tab t tk' b B:=
 ⟨h.len,fun i hi=>by rcases h.src i hi with q|q|q;exact .inl q;exact .inr (.inl q);exact .inr (.inr ((hm _).1 q)),fun x hx=>h.tk2 x ((hm x).2 hx),h.dist,fun y h1 h2=>by rcases h.fr y h1 h2 with q|q;exact .inl q;exact .inr ((hm y).1 q),h.b1⟩
section

variable{A D:n9}{w w':d9}{v dv tv lv:Value}{P P':Bo}{S S':Dk}{pb:Nat}{ps:List (Int × f7)}

theorem JN(h:MQ A D w pb tv dv P S)(hl:Tx A w lv ps)(hs:i6 P S=true∨x9 P.tab.length ps≠0∨ps=[]∨P.gen=1099511627776):
  Calls Tryz.prog 46 #[.pointer (some ⟨pb,0,none⟩),lv] w fun e w'=>Pt UG 139 91 A w (.pointer (some ⟨pb,0,none⟩)) dv P S ps e w':=by
 have HM:=b9 h;have HL:c6 (Tx A w lv ps):=hl;obtain⟨lo,B,rfl,n,m⟩:=hl.form
 cases hsh:i6 P S
 ·have d:c6 (i6 P S=false):=hsh;have f:x9 P.tab.length ps≠0∨ps=[]∨P.gen=1099511627776:=hs.resolve_left (by rw[hsh];simp);obtain⟨c,l⟩:=c7 (x9 P.tab.length ps);have HC:c6 (x9 P.tab.length ps=c):=l.symm;clear h hl hs hsh n m;by_cases b:x9 P.tab.length ps≠0
  ·have HR:c6 (A5 P S ps=(c,P,S)):=by show _=_;rw[uZ d.o b,HC.o]
   have z:(c !=0)=true:=by rw[←l]at b;simp[b]
   clear f b l;go_in;go_wp2_with fail;refine(U8 HM.o d.o).mono ?_;rintro e k ⟨rfl,a⟩;have a:=a.symm;subst a;go_wp2_with fail;refine(iS HM.o HL.o).mono ?_;rw[HC.o];rintro e k ⟨rfl,a⟩;have a:=a.symm;subst a;go_wp2_with fail;go_ret;exact dW HR.o HM.o (fun x g=> .inl g) (Ch.refl _ _)
  ·have j:c6 (x9 P.tab.length ps=0):=Classical.not_not.1 b;by_cases i:ps=[]
   ·have HR:c6 (A5 P S ps=(0,P,S)):=vA d.o i;have s:(ps.length:Int)=0:=by rw[i];rfl
    clear f b i l HC;go_in;go_wp2_with fail;refine(U8 HM.o d.o).mono ?_;rintro e k ⟨rfl,a⟩;have a:=a.symm;subst a;go_wp2_with fail;refine(iS HM.o HL.o).mono ?_;rw[j.o];rintro e k ⟨rfl,a⟩;have a:=a.symm;subst a;go_wp2_with fail;go_ret;exact dW HR.o HM.o (fun x g=> .inl g) (Ch.refl _ _)
   ·have r:P.gen=1099511627776:=(f.resolve_left b).resolve_left i;have HR:c6 (A5 P S ps=(92,P,S)):=CS d.o j.o i r;have y:=Mn HM.o;rw[r]at y;have s:((ps.length:Int)==0)=false:=by have:=List.length_pos_iff.2 i;simp;omega
    clear f b i r l HC;go_in;go_wp2_with fail;refine(U8 HM.o d.o).mono ?_;rintro e k ⟨rfl,a⟩;have a:=a.symm;subst a;go_wp2_with fail;refine(iS HM.o HL.o).mono ?_;rw[j.o];rintro e k ⟨rfl,a⟩;have a:=a.symm;subst a;go_wp2_with fail;go_ret;exact dW HR.o HM.o (fun x g=> .inl g) (Ch.refl _ _)
 ·have d:c6 (i6 P S=true):=hsh;have HR:c6 (A5 P S ps=(80,J6 P,S)):=CR hsh;clear h hl hs hsh n m;go_in;go_wp2_with fail;refine(pE HM.o d.o).mono ?_;rintro e v ⟨rfl,p,q⟩;have t:=b9 p;have u:c6 (Ch A w v):=q;clear p q;go_wp2_with fail;go_ret;exact dW HR.o t.o (fun x g=> .inl g) u.o
end
end
end Go.Proofs.YtfhoilcbhmeofaaGreat
