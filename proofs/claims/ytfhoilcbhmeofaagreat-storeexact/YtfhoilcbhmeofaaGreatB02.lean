/- TakeRun and its reference. -/
import Derived.Test.YtfhoilcbhmeofaaGreatB01
import Derived.WalkLawsBesides
import Derived.Laws.BitsAllLaws
set_option maxRecDepth 100000
set_option maxHeartbeats 16000000
namespace Go.Proofs.YtfhoilcbhmeofaaGreat
open Go.RowKit
section
open Ieee Go.RowKit

theorem vK{x:Nat}(h:1≤eB x):yX (D6 x)=fB x+4503599627370496∧sh (D6 x)=eB x-1:=by
 obtain⟨a,b⟩:= @Hf x;unfold yX sh;rw[a];constructor
 ·rw[if_neg (by omega)];omega
 ·omega
theorem PW{x:Nat}(hn:L4 x=false)(h:eB x<1023):gC x=0:=by
 obtain⟨c,e⟩:= @Hf x
 have a:wn (D6 x)=0:=by
  have b:sh (D6 x)≤1021:=by unfold sh;omega
  have d:=KT (D6 x);unfold wn;rw[if_neg (by omega)];apply Nat.div_eq_of_lt;have:2^53≤2^(1074-sh (D6 x)):=Nat.pow_le_pow_right (by omega) (by omega);omega
 unfold gC;rw[hn,a,if_neg (by simp),if_neg (by omega)]
 split<;>rfl
theorem uK{x:Nat}(l1:1075≤eB x)(l2:eB x≤1085):IntKind.u64.wrap (((fB x:Int)+4503599627370496)*2^(eB x-1075))=(wn (D6 x):Int)∧wn (D6 x)<9223372036854775808:=by
 obtain⟨c,a⟩:=vK (x:=x) (by omega);obtain⟨f,g⟩:= @Hf x;have d:=Ey (r:=D6 x) (by omega)
 have b:wn (D6 x)=(fB x+4503599627370496)*2^(eB x-1075):=by
  unfold wn;rw[c,a,if_pos (by omega),show eB x-1-1074=eB x-1075 by omega]
 refine⟨?_,d⟩
 have e:(((fB x+4503599627370496)*2^(eB x-1075):Nat):Int)=((fB x:Int)+4503599627370496)*2^(eB x-1075):=by
  rw[Int.natCast_mul,Int.natCast_add,Int.natCast_pow];rfl
 rw[←e,←b,IntKind.wrap_u64];omega
theorem AP{x:Nat}(l1:1023≤eB x)(l2:eB x≤1074):((fB x:Int)+4503599627370496)/2^(1075-eB x)=(wn (D6 x):Int)∧wn (D6 x)<9223372036854775808:=by
 obtain⟨c,a⟩:=vK (x:=x) (by omega);obtain⟨f,g⟩:= @Hf x;have d:=Ey (r:=D6 x) (by omega)
 have b:wn (D6 x)=(fB x+4503599627370496)/2^(1075-eB x):=by
  unfold wn;rw[c,a,if_neg (by omega),show 1074-(eB x-1)=1075-eB x by omega]
 refine⟨?_,d⟩
 have e:(((fB x+4503599627370496)/2^(1075-eB x):Nat):Int)=((fB x:Int)+4503599627370496)/2^(1075-eB x):=by
  rw[Int.natCast_ediv,Int.natCast_add,Int.natCast_pow];rfl
 rw[←e,←b]
theorem As{x:Nat}(hx:x<18446744073709551616)(w:d9)(hc:(Y9 x==5)=false)(g1:decide ((eB x:Int)<1023)=false)(c2:1086≤(eB x:Int))(hs:decide (9223372036854775808≤(x:Int))=false):
  Calls Tryz.prog 202 #[.float .f64 x] w fun e w'=>e= .returned (.int .i64 (9223372036854775807))∧w'=w:=by
 go_in;go_wp2_with fail;refine(F8 hx _).mono ?_;rintro e w' ⟨rfl,rfl⟩;go_wp2_with fail;refine(K6 x _).mono ?_;rintro e w' ⟨rfl,rfl⟩;go_wp2_with fail;refine(D8 hx _).mono ?_;rintro e w' ⟨rfl,rfl⟩;go_wp2_with fail;go_ret;exact⟨rfl,rfl⟩
theorem Ar{x:Nat}(hx:x<18446744073709551616)(w:d9)(hc:(Y9 x==5)=false)(g1:decide ((eB x:Int)<1023)=false)(c2:1086≤(eB x:Int))(hs:9223372036854775808≤(x:Int)):
  Calls Tryz.prog 202 #[.float .f64 x] w fun e w'=>e= .returned (.int .i64 (-9223372036854775808))∧w'=w:=by
 go_in;go_wp2_with fail;refine(F8 hx _).mono ?_;rintro e w' ⟨rfl,rfl⟩;go_wp2_with fail;refine(K6 x _).mono ?_;rintro e w' ⟨rfl,rfl⟩;go_wp2_with fail;refine(D8 hx _).mono ?_;rintro e w' ⟨rfl,rfl⟩;go_wp2_with fail;go_ret;exact⟨rfl,rfl⟩
theorem VL{x:Nat}(hx:x<18446744073709551616)(w:d9)(hc:(Y9 x==5)=false)(g1:decide ((eB x:Int)<1023)=false)(hf:fB x<4503599627370496)(c2:decide (1086≤(eB x:Int))=false)(c3:decide (1075≤(eB x:Int))=true)(l1:1075≤eB x)(l2:eB x≤1085)(hs:decide (9223372036854775808≤(x:Int))=false):
  Calls Tryz.prog 202 #[.float .f64 x] w fun e w'=>e= .returned (.int .i64 (wn (D6 x)))∧w'=w:=by
 go_in;go_wp2_with fail;refine(F8 hx _).mono ?_;rintro e w' ⟨rfl,rfl⟩;go_wp2_with fail;refine(K6 x _).mono ?_;rintro e w' ⟨rfl,rfl⟩;go_wp2_with fail;refine(D8 hx _).mono ?_;rintro e w' ⟨rfl,rfl⟩;go_wp2_with fail;go_ret;exact⟨G2 (by obtain⟨e,k⟩:=uK l1 l2;rw[e];unfold wrap64;omega),rfl⟩
theorem VK{x:Nat}(hx:x<18446744073709551616)(w:d9)(hc:(Y9 x==5)=false)(g1:decide ((eB x:Int)<1023)=false)(hf:fB x<4503599627370496)(c2:decide (1086≤(eB x:Int))=false)(c3:decide (1075≤(eB x:Int))=true)(l1:1075≤eB x)(l2:eB x≤1085)(hs:9223372036854775808≤(x:Int)):
  Calls Tryz.prog 202 #[.float .f64 x] w fun e w'=>e= .returned (.int .i64 (-(wn (D6 x):Int)))∧w'=w:=by
 go_in;go_wp2_with fail;refine(F8 hx _).mono ?_;rintro e w' ⟨rfl,rfl⟩;go_wp2_with fail;refine(K6 x _).mono ?_;rintro e w' ⟨rfl,rfl⟩;go_wp2_with fail;refine(D8 hx _).mono ?_;rintro e w' ⟨rfl,rfl⟩;go_wp2_with fail;go_ret;exact⟨G2 (by obtain⟨e,k⟩:=uK l1 l2;rw[e];unfold wrap64;omega),rfl⟩
theorem Aq{x:Nat}(hx:x<18446744073709551616)(w:d9)(hc:(Y9 x==5)=false)(g1:decide ((eB x:Int)<1023)=false)(hf:fB x<4503599627370496)(c2:decide (1086≤(eB x:Int))=false)(c3:decide (1075≤(eB x:Int))=false)(l1:1023≤eB x)(l2:eB x≤1074)(hs:decide (9223372036854775808≤(x:Int))=false):
  Calls Tryz.prog 202 #[.float .f64 x] w fun e w'=>e= .returned (.int .i64 (wn (D6 x)))∧w'=w:=by
 go_in;go_wp2_with fail;refine(F8 hx _).mono ?_;rintro e w' ⟨rfl,rfl⟩;go_wp2_with fail;refine(K6 x _).mono ?_;rintro e w' ⟨rfl,rfl⟩;go_wp2_with fail;refine(D8 hx _).mono ?_;rintro e w' ⟨rfl,rfl⟩;go_wp2_with fail;go_ret;exact⟨G2 (by obtain⟨e,k⟩:=AP l1 l2;rw[e];unfold wrap64;omega),rfl⟩
theorem Ap{x:Nat}(hx:x<18446744073709551616)(w:d9)(hc:(Y9 x==5)=false)(g1:decide ((eB x:Int)<1023)=false)(hf:fB x<4503599627370496)(c2:decide (1086≤(eB x:Int))=false)(c3:decide (1075≤(eB x:Int))=false)(l1:1023≤eB x)(l2:eB x≤1074)(hs:9223372036854775808≤(x:Int)):
  Calls Tryz.prog 202 #[.float .f64 x] w fun e w'=>e= .returned (.int .i64 (-(wn (D6 x):Int)))∧w'=w:=by
 go_in;go_wp2_with fail;refine(F8 hx _).mono ?_;rintro e w' ⟨rfl,rfl⟩;go_wp2_with fail;refine(K6 x _).mono ?_;rintro e w' ⟨rfl,rfl⟩;go_wp2_with fail;refine(D8 hx _).mono ?_;rintro e w' ⟨rfl,rfl⟩;go_wp2_with fail;go_ret;exact⟨G2 (by obtain⟨e,k⟩:=AP l1 l2;rw[e];unfold wrap64;omega),rfl⟩
theorem BK{x:Nat}(hx:x<18446744073709551616)(w:d9):
  Calls Tryz.prog 202 #[.float .f64 x] w fun e w'=>e= .returned (.int .i64 (gC x))∧w'=w:=by
 cases hn:L4 x
 ·have h:=dB hn;have a:(Y9 x==5)=false:=by rw[beq_eq_false_iff_ne];exact h
  by_cases l:eB x<1023
  ·have i:=PW hn l;have HW:=b9 i;have m:(eB x:Int)<1023:=by omega
   clear i l h;go_in;go_wp2_with fail;refine(F8 hx _).mono ?_;rintro e w' ⟨rfl,rfl⟩;go_wp2_with fail;refine(K6 x _).mono ?_;rintro e w' ⟨rfl,rfl⟩;go_wp2_with fail;refine(D8 hx _).mono ?_;rintro e w' ⟨rfl,rfl⟩;go_wp2_with fail;go_ret;exact⟨G2 (Eq.symm HW),rfl⟩
  ·have HW:gC x=if 1086≤eB x then(if J0 x then-9223372036854775808 else 9223372036854775807)else if J0 x then-(wn (D6 x):Int)else wn (D6 x):=by
    obtain⟨n,g⟩:= @Hf x;unfold gC;rw[hn,if_neg (by simp)];by_cases c:1086≤eB x
    ·rw[if_pos c,if_pos (by omega)]
    ·rw[if_neg c,if_neg (by omega)]
   have f:decide ((eB x:Int)<1023)=false:=by rw[decide_eq_false_iff_not];omega
   have g:=(@Hf x).2;rw[HW];by_cases k:1086≤eB x
   ·rw[if_pos k]
    cases sg:J0 x
    ·exact As hx w a f (by omega) (by have:=bW sg;rw[decide_eq_false_iff_not];omega)
    ·exact Ar hx w a f (by omega) (by have:=cQ sg;omega)
   ·rw[if_neg k];have d:decide (1086≤(eB x:Int))=false:=by rw[decide_eq_false_iff_not];omega
    by_cases j:1075≤eB x
    ·have b:decide (1075≤(eB x:Int))=true:=by rw[decide_eq_true_eq];omega
     cases sg:J0 x
     ·exact VL hx w a f g d b j (by omega) (by have:=bW sg;rw[decide_eq_false_iff_not];omega)
     ·exact VK hx w a f g d b j (by omega) (by have:=cQ sg;omega)
    ·have b:decide (1075≤(eB x:Int))=false:=by rw[decide_eq_false_iff_not];omega
     cases sg:J0 x
     ·exact Aq hx w a f g d b (by omega) (by omega) (by have:=bW sg;rw[decide_eq_false_iff_not];omega)
     ·exact Ap hx w a f g d b (by omega) (by omega) (by have:=cQ sg;omega)
 ·have h:=(jD x).2 hn;go_in;go_wp2_with fail;refine(F8 hx _).mono ?_;rintro e w' ⟨rfl,rfl⟩;go_wp2_with fail;refine(K6 x _).mono ?_;rintro e w' ⟨rfl,rfl⟩;go_wp2_with fail;refine(D8 hx _).mono ?_;rintro e w' ⟨rfl,rfl⟩;go_wp2_with fail;go_ret;exact⟨G2 (by unfold gC;rw[hn];rfl),rfl⟩
end
section
open Ieee Go.RowKit

attribute [local go_sem] aB K8
theorem I5(w:d9):f8 w w:=Below.refl _ _
theorem GL:Tryz.prog.cellsOf 55=2:=by kernel_rfl
structure VB(w:d9)(b:Nat)(v:Vl):Prop where
 c0:w.cell? ⟨b,0,none⟩=some (.bool v.h)
 c1:w.cell? ⟨b,1,none⟩=some (.int .u64 v.b)
 z0:w.frozen? ⟨b,0,none⟩=false
 z1:w.frozen? ⟨b,1,none⟩=false
theorem VB.below{w w':d9}{b B:Nat}{v:Vl}(h:VB w b v)(hb:Below B w w')(hl:b<B):VB w' b v:=
 ⟨by rw[hb.cell (p:=⟨b,0,none⟩) hl];exact h.c0,by rw[hb.cell (p:=⟨b,1,none⟩) hl];exact h.c1,by rw[hb.frozen (p:=⟨b,0,none⟩) hl];exact h.z0,by rw[hb.frozen (p:=⟨b,1,none⟩) hl];exact h.z1⟩
theorem M2(k:Int)(w:d9):
  Calls Tryz.prog 75 #[.int .i64 k] w fun e w'=>e= .returned (.bool (s9 k))∧w'=w:=by
 go_in;go_wp2;all_goals (go_ret;exact⟨Q4 (by unfold s9;simp<;>omega),rfl⟩)
theorem t8(k:Int)(w:d9):
  Calls Tryz.prog 43 #[.int .i64 k] w fun e w'=>e= .returned (.bool (s9 k))∧w'=w:=by
 go_in;go_wp2;all_goals (go_ret;exact⟨Q4 (by unfold s9;simp<;>omega),rfl⟩)
theorem eZ(x:Nat)(w:d9):
  Calls Tryz.prog 179 #[.float .f64 x] w fun e w'=>e= .returned (.agg #[.bool true,.int .u64 x])∧f8 w w':=by
 go_in;go_wp2;refine bodyPost_ret (v:= .agg #[.bool true,.int .u64 x]) (by simp[results,Tryz.results179,go_sem]) rfl ⟨rfl,?_⟩;exact a8 _ _
theorem fI(v:Vl)(w:d9):
  Calls Tryz.prog 181 #[.agg #[.bool v.h,.int .u64 v.b]] w fun e w'=>e= .returned (.float .f64 v.b)∧f8 w w':=by
 go_in;go_wp2;go_ret;exact⟨rfl,a8 _ _⟩
theorem Gj(w:d9)(h:Bool)(b:Nat):VB (w.alloc (Obj.cells #[Value.bool h,Value.int IntKind.u64 (b:Int)] 55)) w.heap.size ⟨h,b⟩:=by
 constructor<;>simp[go_sem]
theorem MU(w:d9):VB (w.alloc (Obj.cells #[Value.bool false,Value.int IntKind.u64 0] 55)) w.heap.size K0:=by
 constructor<;>simp[go_sem,K0]
theorem VB.set{w:d9}{b:Nat}{v:Vl}(h:VB w b v)(c:Bool)(x:Nat):VB ((w.setCell ⟨b,0,none⟩ (.bool c)).setCell ⟨b,1,none⟩ (.int .u64 x)) b ⟨c,x⟩:=by
 obtain⟨f,e,d,a⟩:=h;constructor<;>simp[go_sem,f,e,d,a]
theorem VB.other{w:d9}{b:Nat}{v:Vl}(h:VB w b v){p:Addr}(hne:b≠p.block)(u:Value):VB (w.setCell p u) b v:=by
 have e:=Below.heap_setCell w p u b hne;obtain⟨f,d,c,a⟩:=h;refine⟨?_,?_,?_,?_⟩
 ·rw[World.cell?_setCell_other _ _ _ _ (by rintro⟨⟩;exact hne rfl)];exact f
 ·rw[World.cell?_setCell_other _ _ _ _ (by rintro⟨⟩;exact hne rfl)];exact d
 ·simpa[go_sem]using c
 ·simpa[go_sem]using a
theorem C4{w w1:d9}(h:f8 w w1)(b:Nat)(hb:w.heap.size≤b)(u v:Value):f8 w ((w1.setCell ⟨b,0,none⟩ u).setCell ⟨b,1,none⟩ v):=(h.setCell hb u).setCell hb v
theorem fS{k c:Int}(h:k≠c):(k==c)=false:=by simpa using h
theorem rJ(k:Int){x:Nat}(hx:x<18446744073709551616)(w:d9):
  Calls Tryz.prog 173 #[.int .i64 k,.float .f64 x] w fun e w'=>e= .returned (.agg #[.bool (UF k x).h,.int .u64 (UF k x).b])∧f8 w w':=by
 by_cases d:k=1
 ·subst d;go_in;go_wp2_with fail;refine bodyPost_ret (v:= .agg #[.bool true,.int .u64 1]) (by simp[results,Tryz.results173,go_sem]) rfl ⟨rfl,?_⟩;exact a8 _ _
 by_cases c:k=2
 ·subst c;have e:=(PX x).symm;go_in;go_wp2_with (go_at_call 202;refine(BK hx _).mono ?_;rintro e w' ⟨rfl,rfl⟩);refine bodyPost_ret (v:= .agg #[.bool true,.int .u64 (wZ x)]) (by simp[results,Tryz.results173,go_sem]) rfl ⟨rfl,?_⟩;exact a8 _ _
 by_cases a:k=3∨k=4
 ·have e:UF k x=⟨true,F4 x⟩:=by unfold UF;rw[if_neg d,if_neg c,if_pos a]
  rw[e];rcases a with rfl|rfl
  all_goals
   go_in
   go_wp2_with (first
    |(go_at_call 204;refine(aE hx _).mono ?_;rintro e w' ⟨rfl,rfl⟩)
    |(go_at_call 203;refine(K6 _ _).mono ?_;rintro e w' ⟨rfl,rfl⟩))
   refine bodyPost_ret (v:= .agg #[.bool true,.int .u64 (F4 x)]) (by simp[results,Tryz.results173,go_sem]) rfl ⟨rfl,?_⟩;exact a8 _ _
 ·have e:UF k x=K0:=by unfold UF;rw[if_neg d,if_neg c,if_neg a]
  rw[e];have j:=fS d;have i:=fS c;have g:=fS (fun h=>a (.inl h));have f:=fS (fun h=>a (.inr h));go_in;go_wp2_with fail;refine bodyPost_ret (v:= .agg #[.bool false,.int .u64 0]) (by simp[results,Tryz.results173,go_sem]) rfl ⟨rfl,?_⟩;exact a8 _ _
theorem eQ(w:d9)(o:Obj):(w.alloc o).heap.size=w.heap.size+1:=by simp[go_sem]
theorem D9(w:d9)(o p:Obj):f8 w ((w.alloc o).alloc p):=(a8 w o).alloc (by simp[go_sem]) p
theorem mW(k:Int){v:Vl}(hv:v.ok)(w:d9):
  Calls Tryz.prog 132 #[.int .i64 k,.agg #[.bool v.h,.int .u64 v.b]] w fun e w'=>e= .returned (.agg #[.bool (r9 k v).h,.int .u64 (r9 k v).b])∧f8 w w':=by
 obtain⟨h,b⟩:=v
 cases h
 ·have e:r9 k ⟨false,b⟩=K0:=by unfold r9;rw[if_pos rfl]
  rw[e];go_in;go_wp2_with fail;refine bodyPost_ret (v:= .agg #[.bool false,.int .u64 0]) (by simp[results,Tryz.results132,go_sem]) rfl ⟨rfl,?_⟩;exact D9 _ _ _
 by_cases a:k=1∨k=2
 ·have e:r9 k ⟨true,b⟩=⟨true,b⟩:=by unfold r9;rw[if_neg (by simp),if_pos a]
  rw[e];rcases a with rfl|rfl
  all_goals
   go_in;go_wp2_with fail;refine bodyPost_ret (v:= .agg #[.bool true,.int .u64 b]) (by simp[results,Tryz.results132,go_sem]) rfl ⟨rfl,?_⟩;exact D9 _ _ _
 have p:=fS (fun h=>a (.inl h));have n:=fS (fun h=>a (.inr h));by_cases c:k=3∨k=4
 ·have e:r9 k ⟨true,b⟩=⟨true,F4 b⟩:=by unfold r9;rw[if_neg (by simp),if_neg a,if_pos c]
  rw[e];clear p n;rcases c with rfl|rfl
  all_goals
   go_in;go_wp2_with fail;refine(fI ⟨true,b⟩ _).mono ?_;rintro e m ⟨rfl,d⟩;have vb:=(MU (w.alloc (Obj.cells #[Value.bool true,Value.int IntKind.u64 (b:Int)] 55))).below d (by simp[go_sem]);have HB:c6 (f8 w m):=a9 (D9 _ _ _) d;clear d;go_wp2_with (go_at_call 180;refine(cE hv _).mono ?_;rintro e w' ⟨rfl,rfl⟩);refine(eZ _ _).mono ?_;rintro e q ⟨rfl,d⟩;obtain⟨i,g,l,j⟩:=vb.below d (c8 vb.c0);have f:=b9 (a9 HB.o d);clear d vb HB;rw[eQ]at i g l j;go_wp2_with fail;refine bodyPost_ret (v:= .agg #[.bool true,.int .u64 (F4 b)]) (by simp[results,Tryz.results132,go_sem,i,g]) rfl ⟨rfl,?_⟩;exact C4 f.o _ (Nat.le_succ _) _ _
 ·have e:r9 k ⟨true,b⟩=K0:=by unfold r9;rw[if_neg (by simp),if_neg a,if_neg c]
  rw[e];have s:=fS (fun h=>c (.inl h));have r:=fS (fun h=>c (.inr h));go_in;go_wp2_with fail;refine bodyPost_ret (v:= .agg #[.bool false,.int .u64 0]) (by simp[results,Tryz.results132,go_sem]) rfl ⟨rfl,?_⟩;exact D9 _ _ _
end
theorem t9:(Tryz.prog.info? 5).map (fun i=>(i.zero,i.size,i.bytes))=some (some (.int .u8 0),1,1):=by kernel_rfl
theorem dZ:(Tryz.prog.info? 3).map (fun i=>(i.zero,i.size,i.bytes))=some (some (.int .i64 0),1,8):=by kernel_rfl
theorem SD: ∀a:Fin 256,(a.val|||128)=a.val%128+128:=by decide+kernel
theorem Ko(y:Nat):bits .or .u8 ((y:Int)%256) 128=(y:Int)%128+128:=by
 have h:=u8_or_nat (y%256) 128 (by omega) (by omega);have e:=SD ⟨y%256,by omega⟩;simp only at e;rw[e]at h;have a:((y%256:Nat):Int)=(y:Int)%256:=by omega
 rw[a]at h;rw[show((128:Nat):Int)=128 from rfl]at h;rw[h];omega
theorem p8{z:Int}(h0:0≤z)(h1:z<18446744073709551616):IntKind.u64.wrap z=z:=by
 rw[IntKind.wrap_u64];omega
def AH(x H:Nat)(w:d9)(xv v:Value)(wr:d9):Prop:=
 ∃(y k:Nat) (done:f7),xv= .int .u64 y∧y≤x∧y<128^(k+1)∧done++Wm.encF k y=Wm.enc x∧done.length+k=9∧
  wr.ownsRow H 5 1 v done.length ((ib done).map (Value.int .u8))∧Below H w wr
theorem mB(x:Nat)(hx:x<18446744073709551616)(w:d9):
  AH x w.heap.size w (.int .u64 x) (.slice (some ⟨w.heap.size,0,none⟩) 0 0) (w.alloc (.cells #[] 5)):=
 ⟨x,9,[],rfl,Nat.le_refl _,Nat.lt_of_lt_of_le hx (by decide),rfl,rfl,World.ownsRow_made w #[] 0 (Nat.le_refl _) (by simp[maxLen]) rfl,a8 w _⟩
theorem pF{x H y k:Nat}{done:f7}{w wr w1:d9}{v v':Value}{c:Int}(hge:(128:Int)≤y)(hyx:y≤x)(hk:y<128^(k+1))(henc:done++Wm.encF k y=Wm.enc x)(hlen:done.length+k=9)
  (hbel:Below H w wr) (hH:H≤wr.heap.size) (o:Obj) (hown:wr.ownsRow H 5 1 v done.length ((ib done).map (Value.int .u8)))
  (hown':w1.ownsRow H 5 1 v' (done.length+1) ((ib done).map (Value.int .u8)++[c].map (Value.int .u8))) (hg:(wr.alloc o).grownBy w1 v.ownBlock) (hc:c=(y:Int)%128+128):
  AH x H w (.int .u64 ((y:Int)/128)) v' w1:=by
 cases k with
 |zero=>simp at hk;omega
 |succ k=>
  refine⟨y/128,k,done++[y%128+128],?_,by omega,?_,?_,by simp;omega,?_,?_⟩
  ·congr 1
  ·rw[Nat.pow_succ]at hk;omega
  ·rw[←henc]
   conv=>rhs;rw[Wm.encF,if_neg (by omega)]
   simp
  ·subst hc;have e:(ib (done++[y%128+128]))=ib done++[(y:Int)%128+128]:=by simp[ib]
   rw[e];simpa using hown'
  ·exact hbel.trans (((a8 wr o).mono hH).trans (U9 (hown.alloc o) hg (by simp;omega)))
theorem pG{x H y k:Nat}{done:f7}{w wr w1:d9}{v v':Value}{c:Int}(hge:(y:Int)<128)(henc:done++Wm.encF k y=Wm.enc x)
  (hbel:Below H w wr) (hH:H≤wr.heap.size) (o:Obj) (hown:wr.ownsRow H 5 1 v done.length ((ib done).map (Value.int .u8)))
  (hown':w1.ownsRow H 5 1 v' (done.length+1) ((ib done).map (Value.int .u8)++[c].map (Value.int .u8))) (hg:(wr.alloc o).grownBy w1 v.ownBlock) (hc:c=(y:Int)):
  w1.ownsRow H 5 1 v' (Wm.enc x).length ((ib (Wm.enc x)).map (Value.int .u8))∧Below H w w1:=by
 have e:Wm.encF k y=[y]:=by
  cases k with
  |zero=>rfl
  |succ k=>rw[Wm.encF,if_pos (by omega)]
 rw[e]at henc;refine⟨?_,hbel.trans (((a8 wr o).mono hH).trans (U9 (hown.alloc o) hg (by simp;omega)))⟩;rw[←henc];subst hc;simpa[ib]using hown'
theorem U0(k:IntKind)(w:d9)(e:TypeId)(c:Int):Sv k (w.alloc (.cells #[.int k c] e)) (.slice (some ⟨w.heap.size,0,none⟩) 1 1) [c]:=Gy k w e [c] (by simp[maxLen])
theorem B8(x:Nat)(hx:x<18446744073709551616)(w:d9):
  Calls Tryz.prog 153 #[.int .u64 x] w fun e w'=> ∃v,e= .returned v∧w'.ownsRow w.heap.size 5 1 v (Wm.enc x).length ((ib (Wm.enc x)).map (Value.int .u8))∧f8 w w':=by
 have i:=mB x hx w;have l:=b9 i;clear i hx;go_in;go_wp2;go_loopw [0,3] (fun xv v wr=>AH x w.heap.size w xv v wr) (fun xv _ _=>(intOf xv).toNat)
 case atStart=>exact l.o
 case round=>
  obtain⟨y,k,done,rfl,h,m,g,f,c,d⟩:=hrel;have HY:=b9 h;have HK:=b9 m;have HE:=b9 g;have HL:=b9 f;have n:=d.size;have q:=Ko y;clear h m g f l;by_cases j:(128:Int)≤(y:Int)
  ·go_wp2_with (at_builtin;refine g7 (by rfl) (.tmp 7) (.tmp 11) 75 (by rfl) w.heap.size 5 .u8 1 Tryz.underlying75 t9 _ _ _ (by rfl) (c.alloc _) _ [_] (by rfl) (U0 .u8 _ _ _) (by simp[maxLen];have:=HL.o;omega) (by simp;have:=HL.o;omega) (by simp;omega) ?_;intro v' p a b);have R:=pF j HY.o HK.o HE.o HL.o d n _ c a b rfl;clear a b;go_wp2;go_roundw
   case rel=>exact R
   case measure=>simp[intOf];omega
  ·go_wp2_with (at_builtin;refine g7 (by rfl) (.tmp 15) (.tmp 18) 75 (by rfl) w.heap.size 5 .u8 1 Tryz.underlying75 t9 _ _ _ (by rfl) (c.alloc _) _ [_] (by rfl) (U0 .u8 _ _ _) (by simp[maxLen];have:=HL.o;omega) (by simp;have:=HL.o;omega) (by simp;omega) ?_;intro v' p a b);have R:=pG j HE.o d n _ c a b (by omega);clear a b;go_wp2;go_ret;exact⟨_,rfl,R⟩
theorem D7(x:Nat)(hx:x<18446744073709551616)(w:d9):
  Calls Tryz.prog 97 #[.int .u64 x] w fun e w'=> ∃v,e= .returned v∧w'.ownsRow w.heap.size 5 1 v (Wm.enc x).length ((ib (Wm.enc x)).map (Value.int .u8))∧f8 w w':=by
 have i:=mB x hx w;have l:=b9 i;have HX:=b9 hx;clear i hx;go_in;go_wp2;go_loopw [0,3] (fun xv v wr=>AH x w.heap.size w xv v wr) (fun xv _ _=>(intOf xv).toNat)
 case atStart=>exact l.o
 case round=>
  obtain⟨y,k,done,rfl,h,m,g,f,c,d⟩:=hrel;have HY:=b9 h;have HK:=b9 m;have HE:=b9 g;have HL:=b9 f;have n:=d.size;have q:IntKind.u64.wrap ((y:Int)/128)=(y:Int)/128:=p8 (by omega) (by have:=HX.o;omega);clear h m g f l;by_cases j:(128:Int)≤(y:Int)
  ·go_wp2_with (at_builtin;refine g7 (by rfl) (.tmp 7) (.tmp 12) 75 (by rfl) w.heap.size 5 .u8 1 Tryz.underlying75 t9 _ _ _ (by rfl) (c.alloc _) _ [_] (by rfl) (U0 .u8 _ _ _) (by simp[maxLen];have:=HL.o;omega) (by simp;have:=HL.o;omega) (by simp;omega) ?_;intro v' p a b);have R:=pF j HY.o HK.o HE.o HL.o d n _ c a b rfl;clear a b;go_wp2;go_roundw
   case rel=>exact R
   case measure=>simp[intOf];omega
  ·go_wp2_with (at_builtin;refine g7 (by rfl) (.tmp 16) (.tmp 19) 75 (by rfl) w.heap.size 5 .u8 1 Tryz.underlying75 t9 _ _ _ (by rfl) (c.alloc _) _ [_] (by rfl) (U0 .u8 _ _ _) (by simp[maxLen];have:=HL.o;omega) (by simp;have:=HL.o;omega) (by simp;omega) ?_;intro v' p a b);have R:=pG j HE.o d n _ c a b (by omega);clear a b;go_wp2;go_ret;exact⟨_,rfl,R⟩
def Pv(w:d9)(v:Value)(ls:List f7):Prop:=
 ∃ao cap,v= .slice ao ls.length cap∧ls.length≤cap∧cap≤maxLen∧(ao=none→cap=0)∧
  ∀i,i<ls.length→ ∃b off u,ao=some ⟨b,off,none⟩∧w.cell? ⟨b,off+i,none⟩=some u∧Bv w u (ls.getD i [])
theorem zN(ls:List f7)(k:Nat):(ls.take k).flatten.length≤ls.flatten.length:=by
 have:ls.flatten=(ls.take k).flatten++(ls.drop k).flatten:=by rw[←List.flatten_append,List.take_append_drop]
 rw[this];simp
theorem iB(ls:List f7)(k:Nat)(hk:k<ls.length):(ls.take (k+1)).flatten=(ls.take k).flatten++ls.getD k []:=by
 have e:ls.getD k []=ls[k]:=by simp[List.getD,List.getElem?_eq_getElem hk]
 rw[e,List.take_succ_eq_append_getElem hk,List.flatten_append,List.flatten_singleton]
def qL(ls:List f7)(H:Nat)(w:d9)(v iv:Value)(wr:d9):Prop:=
 ∃k:Nat,k≤ls.length∧iv= .int .i64 k∧wr.ownsRow H 5 1 v (ls.take k).flatten.length ((ib (ls.take k).flatten).map (Value.int .u8))∧Below H w wr
theorem tZ(ls:List f7)(w:d9):
  qL ls w.heap.size w (.slice (some ⟨w.heap.size,0,none⟩) 0 0) (.int .i64 0) (w.alloc (.cells #[] 5)):=
 ⟨0,Nat.zero_le _,rfl,World.ownsRow_made w #[] 0 (Nat.le_refl _) (by simp[maxLen]) rfl,a8 w _⟩
theorem yZ{ls:List f7}{H k:Nat}{w wr w1:d9}{v v':Value}{p:f7}(hp:ls.getD k []=p)(hk:k<ls.length)(hH:H≤wr.heap.size)(hbel:Below H w wr)
  (hown:wr.ownsRow H 5 1 v (ls.take k).flatten.length ((ib (ls.take k).flatten).map (Value.int .u8)))
  (hown':w1.ownsRow H 5 1 v' ((ls.take k).flatten.length+(ib p).length) ((ib (ls.take k).flatten).map (Value.int .u8)++(ib p).map (Value.int .u8))) (hg:wr.grownBy w1 v.ownBlock):
  qL ls H w v' (.int .i64 ((k:Int)+1)) w1:=by
 refine⟨k+1,hk,rfl,?_,hbel.trans (U9 hown hg hH)⟩;rw[iB ls k hk,hp,List.length_append,o7,List.map_append];rw[i8]at hown';exact hown'
theorem TG(ls:List f7)(b off cap:Nat)(w:d9)(hl:ls.length≤cap)(hcap:cap≤maxLen)(hsz:ls.flatten.length≤140737488355328)
  (hc: ∀i,i<ls.length→ ∃u,w.cell? ⟨b,off+i,none⟩=some u∧Bv w u (ls.getD i [])):
  Calls Tryz.prog 152 #[.slice (some ⟨b,off,none⟩) ls.length cap] w fun e w'=> ∃v,e= .returned v∧w'.ownsRow w.heap.size 5 1 v ls.flatten.length ((ib ls.flatten).map (Value.int .u8))∧f8 w w':=by
 unfold maxLen at hcap;have s:c6 (qL ls w.heap.size w (.slice (some ⟨w.heap.size,0,none⟩) 0 0) (.int .i64 0) (w.alloc (.cells #[] 5))):=tZ ls w;have z:(ls.length:Int)≤9223372036854775807:=by omega
 have r:=b9 hsz;have HC:c6 (∀i,i<ls.length→ ∃u,w.cell? ⟨b,off+i,none⟩=some u∧Bv w u (ls.getD i [])):=hc;clear hcap hsz hc hl;go_in;go_wp2;go_loopw [3,9] (fun v iv wr=>qL ls w.heap.size w v iv wr) (fun _ iv _=>ls.length-(intOf iv).toNat)
 case atStart=>exact s.o
 case round=>
  obtain⟨k,B,rfl,f,d⟩:=hrel;have x:w.heap.size≤wr.heap.size:=d.size;by_cases j:k<ls.length
  ·obtain⟨u,q,l⟩:=HC.o k j;obtain⟨p,n⟩: ∃p,ls.getD k []=p:=⟨_,rfl⟩;rw[n]at l;have HP:c6 (ls.getD k []=p):=n;have HB:c6 (Bv wr u p):=l.below d
   have m:c6 ((ls.take k).flatten.length+(ib p).length≤140737488355328):=by
    have y:=zN ls (k+1);rw[iB ls k j,List.length_append,n]at y;have:=r.o;rw[i8];exact Nat.le_trans y this
   obtain⟨⟨a,c,rfl,_⟩,_⟩:=l;have t:wr.cell? ⟨b,off+k,none⟩=some (.slice a (ib p).length c):=by rw[d.cell (p:=⟨b,off+k,none⟩) (c8 q)];exact q
   clear n;clear q;go_wp2_with (at_builtin;refine g7 (by rfl) (.tmp 13) (.tmp 14) 75 (by rfl) w.heap.size 5 .u8 1 Tryz.underlying75 t9 _ _ _ (by rfl) f _ _ (by rfl) HB.o.1 (by have:=m.o;simp only[maxLen];omega) (by have:=m.o;omega) x ?_;intro v' A g h);have R:=yZ HP.o j x d f g h;clear g h;go_wp2;go_roundw
   case rel=>exact R
   case measure=>simp[intOf];omega
  ·obtain rfl:k=ls.length:=by omega
   have HO:c6 (wr.ownsRow w.heap.size 5 1 u3 ls.flatten.length ((ib ls.flatten).map (Value.int .u8))):=by
    have:=f;rwa [List.take_length]at this
   clear f;go_wp2;go_ret;exact⟨_,rfl,HO.o,d⟩
theorem TH(ao:Option Addr)(cap:Nat)(w:d9):
  Calls Tryz.prog 152 #[.slice ao 0 cap] w fun e w'=> ∃v,e= .returned v∧w'.ownsRow w.heap.size 5 1 v 0 []∧f8 w w':=by
 have H:c6 ((w.alloc (.cells #[] 5)).ownsRow w.heap.size 5 1 (.slice (some ⟨w.heap.size,0,none⟩) 0 0) 0 []):=World.ownsRow_made w #[] 0 (Nat.le_refl _) (by simp[maxLen]) rfl;go_in;go_wp2;refine wp_loop_rounds 1 ?_;rw[rounds_succ];go_wp2;go_ret;exact⟨_,rfl,H.o,a8 w _⟩
theorem K5{w:d9}{v:Value}{ls:List f7}(h:Pv w v ls)(hsz:ls.flatten.length≤140737488355328):
  Calls Tryz.prog 152 #[v] w fun e w'=> ∃v,e= .returned v∧w'.ownsRow w.heap.size 5 1 v ls.flatten.length ((ib ls.flatten).map (Value.int .u8))∧f8 w w':=by
 obtain⟨p,a,rfl,l,k,q,d⟩:=h;by_cases f:ls=[]
 ·subst f;exact TH p a w
 ·have g:=List.length_pos_iff.2 f;obtain⟨b,c,u,rfl,_,_⟩:=d 0 g;refine TG ls b c a w l k hsz fun i j=>?_;obtain⟨b',off',u',o,n,m⟩:=d i j
  cases o
  exact⟨u',n,m⟩
theorem TZ(c:Nat)(h:c<256):bits .andNot .u8 (c:Int) 128=(c:Int)%128:=by
 have:=u8_andNot_nat c 128 h (by omega);rw[show((128:Nat):Int)=128 from rfl]at this;rw[this];have e:=Nat.and_two_pow_sub_one_eq_mod c 7;rw[e];omega
theorem WN(i:Nat):(2:Nat)^(7*i)=128^i:=by rw[Nat.pow_mul]
theorem ML{c i:Nat}(hi:i≤9)(hok:i=9→c≤1):c%128*128^i<18446744073709551616∧(c%128+1)*128^i≤18446744073709551616:=by
 by_cases h:i=9
 ·subst h;have e:=hok rfl;have:c=0∨c=1:=by omega
  rcases this with rfl|rfl<;>decide
 ·have a:(128:Nat)^i≤128^8:=Nat.pow_le_pow_right (by omega) (by omega);have d:c%128*128^i≤127*128^8:=Nat.mul_le_mul (by omega) a;have b:(c%128+1)*128^i≤128*128^8:=Nat.mul_le_mul (by omega) a;exact⟨Nat.lt_of_le_of_lt d (by decide),Nat.le_trans b (by decide)⟩
theorem VE{c i:Nat}(hi:i≤9)(hok:i=9→c≤1):IntKind.u64.wrap ((c:Int)%128*2^(7*i))=((c%128*128^i:Nat):Int):=by
 have h:=(ML (c:=c) hi hok).1
 have e:((c:Int)%128*2^(7*i))=((c%128*128^i:Nat):Int):=by
  rw[←WN];push_cast;rfl
 rw[e];generalize c%128*128^i=z at h⊢;exact p8 (by omega) (by omega)
theorem tG{x c i:Nat}(hx:x<128^i)(hi:i≤9)(hok:i=9→c≤1):
  bits .or .u64 (x:Int) (IntKind.u64.wrap ((c:Int)%128*2^(7*i)))=((x+c%128*128^i:Nat):Int):=by
 have h:=ML (c:=c) hi hok;rw[VE hi hok,bits_or_u64_nat x _ (by have:=h.2;rw[Nat.add_mul]at this;omega) h.1];congr 1;rw[←WN]at hx⊢;rw[Nat.or_comm,Nat.mul_comm,←Nat.two_pow_add_eq_or_of_lt hx];omega
theorem qI{x c i:Nat}(hx:x<128^i)(hi:i≤9)(hok:i=9→c≤1):
  IntKind.u64.wrap ((x:Int)+IntKind.u64.wrap ((c:Int)%128*2^(7*i)))=((x+c%128*128^i:Nat):Int):=by
 have h:=ML (c:=c) hi hok;rw[VE hi hok,p8 (by omega) ?_]
 ·push_cast;rfl
 ·have:=h.2;rw[Nat.add_mul]at this;omega
theorem tH{x c i:Nat}(hx:x<128^i):x+c%128*128^i<128^(i+1):=by
 have:(c%128+1)*128^i≤128*128^i:=Nat.mul_le_mul_right _ (by omega);rw[Nat.add_mul]at this;rw[Nat.pow_succ];omega
theorem jA{l:f7}{i c:Nat}(hi:i<l.length)(hc:l.getD i 0=c):l.drop i=c::l.drop (i+1):=by
 rw[List.drop_eq_getElem_cons hi];simp[List.getD,List.getElem?_eq_getElem hi]at hc;rw[hc]
theorem qU{l:f7}{i c x:Nat}{r:Nat × Nat × Nat}(ht:Wm.tk (l.drop i) i x=r)(hi:i<l.length)(hc:l.getD i 0=c)(hb:(0<i∧c=0)∨(i=9∧1<c)):r=(0,0,4):=by
 rw[←ht,jA hi hc,Wm.tk,if_pos hb]
theorem iO{l:f7}{i c x:Nat}{r:Nat × Nat × Nat}(ht:Wm.tk (l.drop i) i x=r)(hi:i<l.length)(hc:l.getD i 0=c)(hb: ¬((0<i∧c=0)∨(i=9∧1<c)))(h:c<128):
  r=(x+c%128*128^i,i+1,0):=by
 rw[←ht,jA hi hc,Wm.tk,if_neg hb,if_pos h,Nat.mod_eq_of_lt h]
theorem xG{l:f7}{i c x:Nat}{r:Nat × Nat × Nat}(ht:Wm.tk (l.drop i) i x=r)(hi:i<l.length)(hc:l.getD i 0=c)(hb: ¬((0<i∧c=0)∨(i=9∧1<c)))(h:128≤c)(h2:c<256):
  Wm.tk (l.drop (i+1)) (i+1) (x+c%128*128^i)=r:=by
 rw[←ht,jA hi hc,Wm.tk,if_neg hb,if_neg (by omega)];have e:c%128=c-128:=by omega
 rw[e]
theorem VA{l:f7}{i x:Nat}{r:Nat × Nat × Nat}(ht:Wm.tk (l.drop i) i x=r)(hi:l.length≤i):r=(0,0,3):=by
 rw[←ht,List.drop_eq_nil_of_le hi,Wm.tk]
def t3(r:Nat × Nat × Nat):Value:= .tuple #[.int .u64 (r.1:Nat),.int .i64 (r.2.1:Nat),.int .i64 (r.2.2:Nat)]
theorem dN{r:Nat × Nat × Nat}{a b c:Int}{p q s:Nat}(h:r=(p,q,s))(ha:a=p)(hb:b=q)(hc:c=s):Ending.returned (.tuple #[.int .u64 a,.int .i64 b,.int .i64 c])= .returned (t3 r):=by
 subst h ha hb hc;rfl
theorem QL(l:f7)(b off cap:Nat)(w:d9)(hl:l.length≤cap)(hcap:cap≤maxLen)
  (hc: ∀i,i<l.length→w.cell? ⟨b,off+i,none⟩=some (.int .u8 ((l.getD i 0:Nat):Int))) (h256: ∀c∈l,c<256):
  Calls Tryz.prog 158 #[.slice (some ⟨b,off,none⟩) l.length cap] w fun e w'=>e= .returned (t3 (Wm.take l))∧w'=w:=by
 unfold maxLen at hcap;go_in;go_wp2;go_loop [5,10] (fun xv iv=> ∃i x:Nat,xv= .int .u64 x∧iv= .int .i64 i∧i≤l.length∧i≤9∧x<128^i∧Wm.tk (l.drop i) i x=Wm.take l) (fun _ iv=>l.length-(intOf iv).toNat)
 case atStart=>exact⟨0,0,rfl,rfl,by omega,by omega,by simp,rfl⟩
 case round=>
  obtain⟨i,x,rfl,rfl,u,f,n,j⟩:=hrel;have HX:=b9 n;have HT:=b9 j;clear n j;by_cases a:i<l.length
  ·have h:=hc i a;obtain⟨c,g⟩: ∃c,l.getD i 0=c:=⟨_,rfl⟩;rw[g]at h;have HC:=b9 g;have d:c<256:=by rw[←g];exact h256 _ (by simp[List.getD,List.getElem?_eq_getElem a])
   have y:=TZ c d;have v:(c:Int)<256:=by omega
   have k:=b9 d;have t:(l.length:Int)≤9223372036854775807:=by omega
   clear g hc d hl hcap h256;by_cases C:(0:Int)<(i:Int)
   ·by_cases r:(c:Int)=0
    ·go_wp2_with fail;go_ret3;exact⟨dN (qU HT.o a HC.o (.inl ⟨by omega,by omega⟩)) rfl rfl rfl,rfl⟩
    ·by_cases m:(i:Int)=9
     ·have z:((i:Int)==9)=true:=by simp[m]
      have s:=b9 m;have A:((c:Int)==0)=false:=by simpa using r
      clear m;by_cases B:(1:Int)<(c:Int)
      ·go_wp2_with fail;go_ret3;exact⟨dN (qU HT.o a HC.o (.inr ⟨by have:=s.o;omega,by omega⟩)) rfl rfl rfl,rfl⟩
      ·go_wp2_with fail;go_ret3;exact⟨dN (iO HT.o a HC.o (by omega) (by omega)) (tG HX.o f (by omega)) (by omega) rfl,rfl⟩
     ·by_cases q:(c:Int)<128
      ·go_wp2_with fail;go_ret3;exact⟨dN (iO HT.o a HC.o (by omega) (by omega)) (tG HX.o f (by omega)) (by omega) rfl,rfl⟩
      ·go_wp2_with fail;go_round
       case rel=>exact⟨i+1,_,by rw[tG HX.o f (by omega)],by go_num,by omega,by omega,tH HX.o,xG HT.o a HC.o (by omega) (by omega) k.o⟩
       case measure=>simp[intOf];omega
   ·by_cases q:(c:Int)<128
    ·go_wp2_with fail;go_ret3;exact⟨dN (iO HT.o a HC.o (by omega) (by omega)) (tG HX.o f (by omega)) (by omega) rfl,rfl⟩
    ·go_wp2_with fail;go_round
     case rel=>exact⟨i+1,_,by rw[tG HX.o f (by omega)],by go_num,by omega,by omega,tH HX.o,xG HT.o a HC.o (by omega) (by omega) k.o⟩
     case measure=>simp[intOf];omega
  ·have p: ¬(i:Int)<(l.length:Int):=by omega
   go_wp2_with fail;go_ret3;exact⟨dN (VA HT.o (by omega)) rfl rfl rfl,rfl⟩
theorem QN(ao:Option Addr)(cap:Nat)(w:d9):
  Calls Tryz.prog 158 #[.slice ao 0 cap] w fun e w'=>e= .returned (t3 (Wm.take []))∧w'=w:=by
 go_in;go_wp2;refine wp_loop_rounds 1 ?_;rw[rounds_succ];go_wp2;go_ret3;exact⟨rfl,rfl⟩
theorem N6{w:d9}{v:Value}{l:f7}(h:Bv w v l):
  (l=[]∧ ∃ao cap,v= .slice ao 0 cap)∨ ∃b off cap,v= .slice (some ⟨b,off,none⟩) l.length cap∧0<l.length∧l.length≤cap∧cap≤maxLen∧
   ∀i,i<l.length→w.cell? ⟨b,off+i,none⟩=some (.int .u8 ((l.getD i 0:Nat):Int)):=by
 obtain⟨⟨ao,cap,rfl,e,g,n,d⟩,m⟩:=h;rw[i8]at e⊢;by_cases f:l=[]
 ·subst f;exact .inl ⟨rfl,ao,cap,rfl⟩
 ·have a:=List.length_pos_iff.2 f;obtain⟨b,off,rfl,_⟩:=d 0 (by rw[i8];exact a);refine .inr ⟨b,off,cap,rfl,a,e,g,fun i c=>?_⟩;obtain⟨b',off',k,j⟩:=d i (by rw[i8];exact c)
  cases k
  rw[j];simp[ib,List.getD,List.getElem?_eq_getElem c]
theorem G9{w:d9}{v:Value}{l:f7}(h:Bv w v l):
  Calls Tryz.prog 158 #[v] w fun e w'=>e= .returned (t3 (Wm.take l))∧w'=w:=by
 rcases N6 h with ⟨rfl,i,a,rfl⟩|⟨b,c,a,rfl,j,g,f,d⟩
 ·exact QN i a w
 ·exact QL l b c a w g f d h.2
theorem iU{w w':d9}{base e size n:Nat}{v:Value}{xs:List Value}(h:w.ownsRow base e size v n xs)(hb:f8 w w'):w'.ownsRow base e size v n xs:=by
 refine⟨h.1,?_⟩;rcases h.2 with f|⟨g,a,cur,c,d,b,r⟩
 ·exact .inl f
 ·exact .inr ⟨g,a,cur,c,d,by rw[hb.block g (Array.getElem?_eq_some_iff.1 b).1];exact b,r⟩
theorem AE{w:d9}{v:Value}{l:f7}(h:Bv w v l): ∃ao cap,v= .slice ao l.length cap:=by
 obtain⟨⟨ao,cap,rfl,_⟩,_⟩:=h;exact⟨ao,cap,by rw[i8]⟩
theorem bU{w:d9}{base base' e size n:Nat}{v:Value}{xs:List Value}(h:w.ownsRow base e size v n xs)(hb:base'≤base):w.ownsRow base' e size v n xs:=by
 refine⟨h.1,?_⟩;rcases h.2 with f|⟨g,a,cur,b,d,c,r⟩
 ·exact .inl f
 ·exact .inr ⟨g,a,cur,b,Nat.le_trans hb d,c,r⟩
theorem Hk{w:d9}{u v:Value}{l r:f7}(t:TypeId)(hu:Bv w u l)(hv:Bv w v r):
  Pv (w.alloc (.cells #[u,v] t)) (.slice (some ⟨w.heap.size,0,none⟩) 2 2) [l,r]:=by
 refine⟨_,2,rfl,Nat.le_refl _,by simp[maxLen],by simp,fun i a=>?_⟩;simp at a;have:i=0∨i=1:=by omega
 rcases this with rfl|rfl
 ·exact⟨_,_,u,rfl,by simp,hu.below (a8 _ _)⟩
 ·exact⟨_,_,v,rfl,by simp,hv.below (a8 _ _)⟩
theorem FA(a b:f7):[a,b].flatten=a++b:=by simp
def DJ(l:List Int):f7:=Wm.enc l.length++Wm.encAll (l.map Int.toNat)
def pH(l:List Int):f7 × Nat:=if∀x∈l,0≤x then(DJ l,0)else([],1)
theorem jP(l r:f7):Wm.encAll (l++r)=Wm.encAll l++Wm.encAll r:=by
 induction l with
 |nil=>rfl
 |cons x l a=>simp[Wm.encAll,a]
theorem sS(l:f7):(Wm.encAll l).length≤10*l.length:=by
 induction l with
 |nil=>simp[Wm.encAll]
 |cons x l a=>
  have:=(Wm.enc_len x).2;simp only[Wm.encAll,List.length_append,List.length_cons];omega
def fA(l:List Int)(k:Nat):f7:=Wm.enc l.length++Wm.encAll ((l.take k).map Int.toNat)
theorem vJ(l:List Int):fA l 0=Wm.enc l.length:=by simp[fA,Wm.encAll]
theorem XI(l:List Int):fA l l.length=DJ l:=by simp[fA,DJ]
theorem DK(l:List Int)(k:Nat)(hk:k≤l.length):(fA l k).length≤10+10*k:=by
 have b:=(Wm.enc_len l.length).2;have a:=sS ((l.take k).map Int.toNat);rw[List.length_map,List.length_take]at a;unfold fA;rw[List.length_append];omega
theorem SN{l:List Int}{k:Nat}{x:Int}(hk:k<l.length)(hx:l.getD k 0=x):fA l (k+1)=fA l k++Wm.enc x.toNat:=by
 have e:l.getD k 0=l[k]:=by simp[List.getD,List.getElem?_eq_getElem hk]
 unfold fA;rw[List.take_succ_eq_append_getElem hk,List.map_append,jP,←e,hx,List.append_assoc];simp[Wm.encAll]
def nV(l:List Int)(H:Nat)(w:d9)(v iv:Value)(wr:d9):Prop:=
 ∃k:Nat,k≤l.length∧iv= .int .i64 k∧(∀i,i<k→0≤l.getD i 0)∧wr.ownsRow H 5 1 v (fA l k).length ((ib (fA l k)).map (Value.int .u8))∧Below H w wr
theorem mH{l:List Int}{H k:Nat}{w wr w1 w2:d9}{v v':Value}{x:Int}(hk:k<l.length)(hx:l.getD k 0=x)(h0:0≤x)(hpos: ∀i,i<k→0≤l.getD i 0)(hbel:Below H w wr)(hH:H≤wr.heap.size)
  (hb1:f8 wr w1) (hown:w1.ownsRow H 5 1 v (fA l k).length ((ib (fA l k)).map (Value.int .u8)))
  (hown':w2.ownsRow H 5 1 v' ((fA l k).length+(ib (Wm.enc x.toNat)).length) ((ib (fA l k)).map (Value.int .u8)++(ib (Wm.enc x.toNat)).map (Value.int .u8))) (hg:w1.grownBy w2 v.ownBlock):
  nV l H w v' (.int .i64 ((k:Int)+1)) w2:=by
 refine⟨k+1,hk,rfl,?_,?_,hbel.trans ((hb1.mono hH).trans (U9 hown hg (Nat.le_trans hH hb1.size)))⟩
 ·intro i a;by_cases h:i<k
  ·exact hpos i h
  ·obtain rfl:i=k:=by omega
   rw[hx];exact h0
 ·rw[SN hk hx,List.length_append,o7,List.map_append];rw[i8]at hown';exact hown'
theorem rU{l:List Int}(h: ∀i,i<l.length→0≤l.getD i 0):pH l=(DJ l,0):=by
 unfold pH;rw[if_pos];intro x b;obtain⟨i,a,rfl⟩:=List.getElem_of_mem b;have:=h i a;simpa[List.getD,List.getElem?_eq_getElem a]using this
theorem vI{l:List Int}{k:Nat}{x:Int}(hk:k<l.length)(hx:l.getD k 0=x)(h:x<0):pH l=([],1):=by
 unfold pH;rw[if_neg];intro a;have e:l.getD k 0=l[k]:=by simp[List.getD,List.getElem?_eq_getElem hk]
 have:=a l[k] (List.getElem_mem hk);rw[←e,hx]at this;omega
def aJ(l:List Int)(w:d9)(e:Ending)(w':d9):Prop:=
 ∃v',e= .returned (.tuple #[v',.int .i64 ((pH l).2:Nat)])∧w'.ownsRow w.heap.size 5 1 v' (pH l).1.length ((ib (pH l).1).map (Value.int .u8))∧f8 w w'
theorem mI{l:List Int}{k:Nat}{x:Int}{w w':d9}(hk:k<l.length)(hx:l.getD k 0=x)(h:x<0)(hb:f8 w w'):
  aJ l w (.returned (.tuple #[.slice none 0 0,.int .i64 1])) w':=by
 refine⟨_,by rw[vI hk hx h];rfl,?_,hb⟩;rw[vI hk hx h];exact World.ownsRow_nil _ _ _ _
theorem cP{l:List Int}{v:Value}{w w':d9}(h: ∀i,i<l.length→0≤l.getD i 0)(hown:w'.ownsRow w.heap.size 5 1 v (fA l l.length).length ((ib (fA l l.length)).map (Value.int .u8)))(hb:f8 w w'):
  aJ l w (.returned (.tuple #[v,.int .i64 0])) w':=by
 refine⟨v,by rw[rU h];rfl,?_,hb⟩;rw[rU h,←XI];exact hown
theorem BA{w:d9}{b off n cap:Nat}{k:IntKind}{l:List Int}(h:Sv k w (.slice (some ⟨b,off,none⟩) n cap) l):n=l.length∧l.length≤cap∧cap≤maxLen∧ ∀i,i<l.length→w.cell? ⟨b,off+i,none⟩=some (.int k (l.getD i 0)):=by
 obtain⟨q,cap',e,g,f,p,d⟩:=h;simp only[Value.slice.injEq]at e;obtain⟨o,m,rfl⟩:=e;refine⟨m,g,f,fun i c=>?_⟩;obtain⟨b',off',a,j⟩:=d i c;rw[←o]at a
 cases a
 exact j
theorem SK(l:List Int)(b off cap:Nat)(w:d9)(hsz:10+10*l.length≤140737488355328)(hin: ∀x∈l,x<9223372036854775808)
  (hc: ∀i,i<l.length→w.cell? ⟨b,off+i,none⟩=some (.int .i64 (l.getD i 0))):
  Calls Tryz.prog 151 #[.slice (some ⟨b,off,none⟩) l.length cap] w (aJ l w):=by
 have E:=b9 hsz;have N:(l.length:Int)≤140737488355328:=by omega
 have HC:=b9 hc;have F:=b9 hin;clear hsz hc hin;go_in;go_wp2_with fail;refine(B8 l.length (by omega) _).mono ?_;rintro e I ⟨J,rfl,m,r⟩;have u:c6 (nV l w.heap.size w J (.int .i64 0) I):=⟨0,Nat.zero_le _,rfl,by omega,by rw[vJ];exact m,r⟩;clear m r;go_wp2_with fail;go_loopw [4,13] (fun v iv wr=>nV l w.heap.size w v iv wr) (fun _ iv _=>l.length-(intOf iv).toNat)
 case atStart=>exact u.o
 case round=>
  obtain⟨k,K,rfl,s,h,d⟩:=hrel;have HP:=b9 s;have H:=d.size;clear s u;by_cases g:k<l.length
  ·have c:=HC.o k g;obtain⟨x,A⟩: ∃x,l.getD k 0=x:=⟨_,rfl⟩;have t:=b9 A;have G:wr.cell? ⟨b,off+k,none⟩=some (.int .i64 x):=by rw[d.cell (p:=⟨b,off+k,none⟩) (c8 c),c,A]
   have D:c6 (x<9223372036854775808):=by
    show x<_;rw[←A];have e:l.getD k 0=l[k]:=by simp[List.getD,List.getElem?_eq_getElem g]
    rw[e];exact F.o _ (List.getElem_mem g)
   clear c A;by_cases L:x<0
   ·go_wp2_with fail;go_ret2;exact mI g t.o L d
   ·obtain⟨y,rfl⟩: ∃y:Nat,x=(y:Int):=⟨x.toNat,by omega⟩;have M:(y:Int)≤9223372036854775807:=by have:=D.o;omega
    go_wp2_with fail;refine(B8 y (by omega) _).mono ?_;rintro e P ⟨Q,rfl,j,a⟩;have f:=iU h a;have B:=b9 (z9 j)
    have z:c6 ((fA l k).length+(ib (Wm.enc y)).length≤140737488355328):=by
     have T:=DK l k K;have S:=(Wm.enc_len y).2;have:=E.o;rw[i8];show _≤_;omega
    have C:=Nat.le_trans H a.size;clear j;go_wp2_with (at_builtin;refine g7 (by rfl) (.tmp 19) (.tmp 22) 75 (by rfl) w.heap.size 5 .u8 1 Tryz.underlying75 t9 _ _ _ (by rfl) f _ _ (by rfl) B.o (by have:=z.o;simp only[maxLen];omega) (by have:=z.o;omega) C ?_;intro v' O n q);have R:=mH g t.o (by omega) HP.o d H a f (by simpa using n) q;clear n q f a;go_wp2;go_roundw
    case rel=>exact R
    case measure=>simp[intOf];omega
  ·obtain rfl:k=l.length:=by omega
   have HO:=b9 h;clear h;go_wp2_with fail;go_ret2;exact cP HP.o HO.o d
theorem SL(ao:Option Addr)(cap:Nat)(w:d9):
  Calls Tryz.prog 151 #[.slice ao 0 cap] w (aJ [] w):=by
 go_in;go_wp2_with fail;refine(B8 0 (by omega) _).mono ?_;rintro e c ⟨d,rfl,a,b⟩;have HO:=b9 a;clear a;go_wp2_with fail;refine wp_loop_rounds 1 ?_;rw[rounds_succ];go_wp2_with fail;go_ret2;exact cP (by simp) HO.o b
theorem SJ{w:d9}{v:Value}{l:List Int}(h:Sv .i64 w v l)(hsz:10+10*l.length≤140737488355328)(hin: ∀x∈l,x<9223372036854775808):
  Calls Tryz.prog 151 #[v] w (aJ l w):=by
 have f:=h;obtain⟨g,a,rfl,k,j,i,e⟩:=h;by_cases d:l=[]
 ·subst d;exact SL g a w
 ·obtain⟨b,c,rfl,_⟩:=e 0 (List.length_pos_iff.2 d);exact SK l b c a w hsz hin (BA f).2.2.2
theorem JQ(l:List Int)(b off cap:Nat)(w:d9)(hsz:10+10*l.length≤140737488355328)(hin: ∀x∈l,x<9223372036854775808)
  (hc: ∀i,i<l.length→w.cell? ⟨b,off+i,none⟩=some (.int .i64 (l.getD i 0))):
  Calls Tryz.prog 165 #[.slice (some ⟨b,off,none⟩) l.length cap] w (aJ l w):=by
 have E:=b9 hsz;have N:(l.length:Int)≤140737488355328:=by omega
 have HC:=b9 hc;have F:=b9 hin;clear hsz hc hin;go_in;go_wp2_with fail;refine(D7 l.length (by omega) _).mono ?_;rintro e I ⟨J,rfl,m,r⟩;have u:c6 (nV l w.heap.size w J (.int .i64 0) I):=⟨0,Nat.zero_le _,rfl,by omega,by rw[vJ];exact m,r⟩;clear m r;go_wp2_with fail;go_loopw [4,5] (fun v iv wr=>nV l w.heap.size w v iv wr) (fun _ iv _=>l.length-(intOf iv).toNat)
 case atStart=>exact u.o
 case round=>
  obtain⟨k,K,rfl,s,h,d⟩:=hrel;have HP:=b9 s;have H:=d.size;clear s u;by_cases g:k<l.length
  ·have c:=HC.o k g;obtain⟨x,A⟩: ∃x,l.getD k 0=x:=⟨_,rfl⟩;have t:=b9 A;have G:wr.cell? ⟨b,off+k,none⟩=some (.int .i64 x):=by rw[d.cell (p:=⟨b,off+k,none⟩) (c8 c),c,A]
   have D:c6 (x<9223372036854775808):=by
    show x<_;rw[←A];have e:l.getD k 0=l[k]:=by simp[List.getD,List.getElem?_eq_getElem g]
    rw[e];exact F.o _ (List.getElem_mem g)
   clear c A;by_cases L:x<0
   ·go_wp2_with fail;go_ret2;exact mI g t.o L d
   ·obtain⟨y,rfl⟩: ∃y:Nat,x=(y:Int):=⟨x.toNat,by omega⟩;have M:(y:Int)≤9223372036854775807:=by have:=D.o;omega
    go_wp2_with fail;refine(D7 y (by omega) _).mono ?_;rintro e P ⟨Q,rfl,j,a⟩;have f:=iU h a;have B:=b9 (z9 j)
    have z:c6 ((fA l k).length+(ib (Wm.enc y)).length≤140737488355328):=by
     have T:=DK l k K;have S:=(Wm.enc_len y).2;have:=E.o;rw[i8];show _≤_;omega
    have C:=Nat.le_trans H a.size;clear j;go_wp2_with (at_builtin;refine g7 (by rfl) (.tmp 21) (.tmp 27) 75 (by rfl) w.heap.size 5 .u8 1 Tryz.underlying75 t9 _ _ _ (by rfl) f _ _ (by rfl) B.o (by have:=z.o;simp only[maxLen];omega) (by have:=z.o;omega) C ?_;intro v' O n q);have R:=mH g t.o (by omega) HP.o d H a f (by simpa using n) q;clear n q f a;go_wp2;go_roundw
    case rel=>exact R
    case measure=>simp[intOf];omega
  ·obtain rfl:k=l.length:=by omega
   have HO:=b9 h;clear h;go_wp2_with fail;go_ret2;exact cP HP.o HO.o d
theorem JR(ao:Option Addr)(cap:Nat)(w:d9):
  Calls Tryz.prog 165 #[.slice ao 0 cap] w (aJ [] w):=by
 go_in;go_wp2_with fail;refine(D7 0 (by omega) _).mono ?_;rintro e c ⟨d,rfl,a,b⟩;have HO:=b9 a;clear a;go_wp2_with fail;refine wp_loop_rounds 1 ?_;rw[rounds_succ];go_wp2_with fail;go_ret2;exact cP (by simp) HO.o b
theorem JP{w:d9}{v:Value}{l:List Int}(h:Sv .i64 w v l)(hsz:10+10*l.length≤140737488355328)(hin: ∀x∈l,x<9223372036854775808):
  Calls Tryz.prog 165 #[v] w (aJ l w):=by
 have f:=h;obtain⟨g,a,rfl,k,j,i,e⟩:=h;by_cases d:l=[]
 ·subst d;exact JR g a w
 ·obtain⟨b,c,rfl,_⟩:=e 0 (List.length_pos_iff.2 d);exact JQ l b c a w hsz hin (BA f).2.2.2
theorem JG(l:f7)(b off cap:Nat)(w:d9)(hl:l.length≤cap)(hcap:cap≤maxLen)
  (hc: ∀i,i<l.length→w.cell? ⟨b,off+i,none⟩=some (.int .u8 ((l.getD i 0:Nat):Int))) (h256: ∀c∈l,c<256):
  Calls Tryz.prog 167 #[.slice (some ⟨b,off,none⟩) l.length cap] w fun e w'=>e= .returned (t3 (Wm.take l))∧w'=w:=by
 unfold maxLen at hcap;go_in;go_wp2;go_loop [5,6] (fun xv iv=> ∃i x:Nat,xv= .int .u64 x∧iv= .int .i64 i∧i≤l.length∧i≤9∧x<128^i∧Wm.tk (l.drop i) i x=Wm.take l) (fun _ iv=>l.length-(intOf iv).toNat)
 case atStart=>exact⟨0,0,rfl,rfl,by omega,by omega,by simp,rfl⟩
 case round=>
  obtain⟨i,x,rfl,rfl,A,g,s,m⟩:=hrel;have HX:c6 (x<128^i):=s;have HT:c6 (Wm.tk (l.drop i) i x=Wm.take l):=m;clear s m;by_cases a:i<l.length
  ·have k:=hc i a;obtain⟨c,h⟩: ∃c,l.getD i 0=c:=⟨_,rfl⟩;rw[h]at k;have HC:c6 (l.getD i 0=c):=h;have d:c<256:=by rw[←h];exact h256 _ (by simp[List.getD,List.getElem?_eq_getElem a])
   have B:(c:Int)<256:=by omega
   have r:c6 (c<256):=d;have z:(l.length:Int)≤9223372036854775807:=by omega
   clear h hc d hl hcap h256;by_cases n:(i:Int)=9
   ·have q:((i:Int)==9)=true:=by simp[n]
    have y:c6 ((i:Int)=9):=n;have v:(0:Int)<(i:Int):=by omega
    clear n;by_cases C:(1:Int)<(c:Int)
    ·go_wp2_with fail;go_ret3;exact⟨dN (qU HT.o a HC.o (.inr ⟨by have:=y.o;omega,by omega⟩)) rfl rfl rfl,rfl⟩
    ·by_cases f:(c:Int)=0
     ·have j:((c:Int)==0)=true:=by simp[f]
      have p:c6 ((c:Int)=0):=f;have t:(c:Int)<128:=by omega
      clear f;go_wp2_with fail;go_ret3;exact⟨dN (qU HT.o a HC.o (.inl ⟨by omega,by have:=p.o;omega⟩)) rfl rfl rfl,rfl⟩
     ·have j:((c:Int)==0)=false:=by simpa using f
      have t:(c:Int)<128:=by omega
      go_wp2_with fail;go_ret3;exact⟨dN (iO HT.o a HC.o (by omega) (by omega)) (qI HX.o g (by omega)) (by omega) rfl,rfl⟩
   ·have q:((i:Int)==9)=false:=by simpa using n
    by_cases t:(c:Int)<128
    ·by_cases f:(c:Int)=0
     ·have j:((c:Int)==0)=true:=by simp[f]
      have p:c6 ((c:Int)=0):=f;clear f;by_cases v:(0:Int)<(i:Int)
      ·go_wp2_with fail;go_ret3;exact⟨dN (qU HT.o a HC.o (.inl ⟨by omega,by have:=p.o;omega⟩)) rfl rfl rfl,rfl⟩
      ·go_wp2_with fail;go_ret3;exact⟨dN (iO HT.o a HC.o (by omega) (by omega)) (qI HX.o g (by omega)) (by omega) rfl,rfl⟩
     ·have j:((c:Int)==0)=false:=by simpa using f
      go_wp2_with fail;go_ret3;exact⟨dN (iO HT.o a HC.o (by omega) (by omega)) (qI HX.o g (by omega)) (by omega) rfl,rfl⟩
    ·go_wp2_with fail;go_round
     case rel=>exact⟨i+1,_,by rw[qI HX.o g (by omega)],by go_num,by omega,by omega,tH HX.o,xG HT.o a HC.o (by omega) (by omega) r.o⟩
     case measure=>simp[intOf];omega
  ·have u: ¬(i:Int)<(l.length:Int):=by omega
   go_wp2_with fail;go_ret3;exact⟨dN (VA HT.o (by omega)) rfl rfl rfl,rfl⟩
theorem JH(ao:Option Addr)(cap:Nat)(w:d9):
  Calls Tryz.prog 167 #[.slice ao 0 cap] w fun e w'=>e= .returned (t3 (Wm.take []))∧w'=w:=by
 go_in;go_wp2;refine wp_loop_rounds 1 ?_;rw[rounds_succ];go_wp2;go_ret3;exact⟨rfl,rfl⟩
theorem z8{w:d9}{v:Value}{l:f7}(h:Bv w v l):
  Calls Tryz.prog 167 #[v] w fun e w'=>e= .returned (t3 (Wm.take l))∧w'=w:=by
 rcases N6 h with ⟨rfl,i,a,rfl⟩|⟨b,c,a,rfl,j,g,f,d⟩
 ·exact JH i a w
 ·exact JG l b c a w g f d h.2
theorem J2{r:Nat × Nat × Nat}{a b c:Nat}(h:r=(a,b,c)):t3 r= .tuple #[.int .u64 a,.int .i64 b,.int .i64 c]:=by subst h;rfl
theorem Bv.le_cap{w:d9}{ao:Option Addr}{cap:Nat}{l:f7}(h:Bv w (.slice ao l.length cap) l):l.length≤cap:=by
 obtain⟨⟨ao',cap',e,a,_⟩,_⟩:=h;simp only[Value.slice.injEq]at e;obtain⟨_,_,rfl⟩:=e;rwa [i8]at a
end Go.Proofs.YtfhoilcbhmeofaaGreat
