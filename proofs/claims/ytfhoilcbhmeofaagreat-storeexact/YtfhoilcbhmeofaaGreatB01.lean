/- Whole numbers as floats: floors, whole parts, exactness, and that rounding keeps the order. Plain mathematics over the model's floats; no program. -/
import Derived.Deep.RegionHeld3
import Derived.Lib.Hide
import Derived.Test.YtfhoilcbhmeofaaGreatChecked
import Derived.WalkKit
import Derived.Laws.BytesArg
import Derived.Laws.AppendOwnNone
import Derived.Deep.Draws
import Derived.Deep.Slices
import Derived.Laws.FloatArith
import Derived.ProofKit
set_option maxRecDepth 100000
set_option maxHeartbeats 16000000
namespace Go.Proofs.YtfhoilcbhmeofaaGreat.Wm

def encF:Nat→Nat→List Nat
 |0,x=>[x]
 |k+1,x=>if x<128 then [x]else(x%128+128)::encF k (x/128)
def enc(x:Nat):List Nat:=encF 9 x
def tk:List Nat→Nat→Nat→Nat × Nat × Nat
 |[],_,_=>(0,0,3)
 |c::l,i,x=>
  if(0<i∧c=0)∨(i=9∧1<c)then(0,0,4)
  else if c<128 then(x+c*128^i,i+1,0)
  else tk l (i+1) (x+(c-128)*128^i)
def take(l:List Nat):Nat × Nat × Nat:=tk l 0 0
theorem encF_len(k x:Nat):1≤(encF k x).length∧(encF k x).length≤k+1:=by
 induction k generalizing x with
 |zero=>simp[encF]
 |succ k a=>
  have:=a (x/128);unfold encF
  split
  ·simp
  ·simp;omega
theorem enc_len(x:Nat):1≤(enc x).length∧(enc x).length≤10:=encF_len 9 x
theorem encF_lt(k x:Nat)(hx:x<128^(k+1)): ∀c∈encF k x,c<256:=by
 induction k generalizing x with
 |zero=>intro c a;simp[encF]at a;simp at hx;omega
 |succ k b=>
  intro c a;unfold encF at a
  split at a
  ·simp at a;omega
  ·simp only[List.mem_cons]at a;rcases a with rfl|a
   ·omega
   ·exact b (x/128) (by rw[Nat.pow_succ]at hx;omega) c a
theorem enc_lt(x:Nat)(hx:x<18446744073709551616): ∀c∈enc x,c<256:=by
 apply encF_lt 9 x;omega
theorem tk_encF(k:Nat): ∀(x i y:Nat) (r:List Nat),i+k=9→x*128^i<18446744073709551616→(0<i→0<x)→
  tk (encF k x++r) i y=(y+x*128^i,i+(encF k x).length,0):=by
 induction k with
 |zero=>
  intro x i y r l g d;obtain rfl:i=9:=by omega
  have n:=d (by omega);have m:(128:Nat)^9=9223372036854775808:=by decide
  rw[m]at g;simp[encF,tk];have:x=1:=by omega
  subst this;simp
 |succ k j=>
  intro x i y r l g d;have f:i≠9:=by omega
  unfold encF;by_cases c:x<128
  ·rw[if_pos c];simp only[List.cons_append,List.nil_append,tk,List.length_cons,List.length_nil];rw[if_neg,if_pos c];rintro(⟨h,rfl⟩|⟨h,_⟩)
   ·have:=d h;omega
   ·exact f h
  ·rw[if_neg c];simp only[List.cons_append,tk,List.length_cons];rw[if_neg (by rintro(⟨h,e⟩|⟨h,_⟩)<;>omega),if_neg (by omega)];have a:(128:Nat)^(i+1)=128^i*128:=Nat.pow_succ ..
   have b:x%128*128^i+x/128*128^(i+1)=x*128^i:=by
    rw[a,Nat.mul_comm (128^i) 128,←Nat.mul_assoc,←Nat.add_mul];congr 1;omega
   rw[j (x/128) (i+1) _ r (by omega) (by omega) (fun _=>by omega)];have e:x%128+128-128=x%128:=by omega
   rw[e];refine Prod.ext ?_ (Prod.ext ?_ rfl)
   ·simp only;omega
   ·simp only;omega
theorem take_enc(x:Nat)(r:List Nat)(hx:x<18446744073709551616):take (enc x++r)=(x,(enc x).length,0):=by
 have:=tk_encF 9 x 0 0 r (by omega) (by simpa using hx) (by omega);simpa[take,enc]using this
theorem tk_form(k:Nat): ∀(l:List Nat) (i y:Nat),i+k=9→(∀c∈l,c<256)→
  (∃e,tk l i y=(0,0,e)∧(e=3∨e=4))∨
  (∃x n,tk l i y=(y+x*128^i,i+n,0)∧(0<i→0<x)∧x*128^i<18446744073709551616∧1≤n∧n≤l.length∧encF k x=l.take n):=by
 induction k with
 |zero=>
  intro l i y D m;obtain rfl:i=9:=by omega
  cases l with
  |nil=>left;exact⟨3,rfl,.inl rfl⟩
  |cons c l=>
   by_cases h:(0<9∧c=0)∨((9:Nat)=9∧1<c)
   ·left;exact⟨4,by rw[tk,if_pos h],.inr rfl⟩
   ·right;have A:c=1:=by omega
    subst A;exact⟨1,1,by simp[tk],by omega,by decide,by omega,by simp,by simp[encF]⟩
 |succ k B=>
  intro l i y D m
  cases l with
  |nil=>left;exact⟨3,rfl,.inl rfl⟩
  |cons c l=>
   by_cases h:(0<i∧c=0)∨(i=9∧1<c)
   ·left;exact⟨4,by simp only[tk];rw[if_pos h],.inr rfl⟩
   ·have L:(128:Nat)^i≤128^8:=Nat.pow_le_pow_right (by omega) (by omega);have r:(128:Nat)^8=72057594037927936:=by decide
    by_cases j:c<128
    ·right;refine⟨c,1,by simp only[tk];rw[if_neg h,if_pos j],by omega,?_,by omega,by simp,by simp[encF,j]⟩;have:c*128^i≤127*128^i:=Nat.mul_le_mul_right _ (by omega);omega
    ·have A:=m c (by simp)
     have b:tk (c::l) i y=tk l (i+1) (y+(c-128)*128^i):=by
      simp only[tk];rw[if_neg h,if_neg j]
     have g:(128:Nat)^(i+1)=128^i*128:=Nat.pow_succ ..;rcases B l (i+1) (y+(c-128)*128^i) (by omega) (fun d hd=>m d (by simp[hd]))with ⟨e,o,w⟩|⟨x,n,o,H,C,Q,P,G⟩
     ·left;exact⟨e,by rw[b,o],w⟩
     ·right;have K:=H (by omega)
      have f:(c-128+128*x)*128^i=(c-128)*128^i+x*128^(i+1):=by
       rw[g,Nat.add_mul,Nat.mul_comm (128^i) 128,←Nat.mul_assoc,Nat.mul_comm x 128]
      refine⟨c-128+128*x,n+1,?_,by omega,?_,by omega,by simp;omega,?_⟩
      ·rw[b,o,f];refine Prod.ext ?_ (Prod.ext ?_ rfl)<;>simp only<;>omega
      ·rw[f]
       --x*128^(i+1) is a multiple of 128^(i+1) below 2^64
       rcases Nat.lt_or_ge i 8 with F|F
       · -- 128^(i+1) divides 2^64-room:x*128^(i+1)<=2^64-128^(i+1)
        have t: ∃q,18446744073709551616=q*128^(i+1):=by
         have:i=0∨i=1∨i=2∨i=3∨i=4∨i=5∨i=6∨i=7:=by omega
         rcases this with rfl|rfl|rfl|rfl|rfl|rfl|rfl|rfl
         ·exact⟨144115188075855872,by decide⟩
         ·exact⟨1125899906842624,by decide⟩
         ·exact⟨8796093022208,by decide⟩
         ·exact⟨68719476736,by decide⟩
         ·exact⟨536870912,by decide⟩
         ·exact⟨4194304,by decide⟩
         ·exact⟨32768,by decide⟩
         ·exact⟨256,by decide⟩
        obtain⟨q,O⟩:=t
        have s:x<q:=by
         rcases Nat.lt_or_ge x q with h|h
         ·exact h
         ·have:=Nat.mul_le_mul_right (128^(i+1)) h;omega
        have z:(x+1)*128^(i+1)≤q*128^(i+1):=Nat.mul_le_mul_right _ s;have N:(c-128)*128^i≤127*128^i:=Nat.mul_le_mul_right _ (by omega);have M:0<128^i:=Nat.pow_pos (by omega);rw[Nat.add_mul]at z;omega
       ·obtain rfl:i=8:=by omega
        have E:(128:Nat)^(8+1)=9223372036854775808:=by decide
        rw[E]at C⊢;rw[r];have p:x=1:=by omega
        have v:c-128≤127:=by omega
        have u:(c-128)*72057594037927936≤127*72057594037927936:=Nat.mul_le_mul_right _ v;rw[p];exact Nat.lt_of_le_of_lt (Nat.add_le_add_right u _) (by decide)
      ·unfold encF;rw[if_neg (by omega)];have J:(c-128+128*x)%128+128=c:=by omega
       have I:(c-128+128*x)/128=x:=by omega
       rw[J,I,G];simp
theorem take_form(l:List Nat)(hl: ∀c∈l,c<256):
  (∃e,take l=(0,0,e)∧(e=3∨e=4))∨
  (∃x n,take l=(x,n,0)∧x<18446744073709551616∧1≤n∧n≤l.length∧enc x=l.take n):=by
 rcases tk_form 9 l 0 0 (by omega) hl with h|⟨x,n,h,_,a,f,d,b⟩
 ·exact .inl h
 ·exact .inr ⟨x,n,by simpa[take]using h,by simpa using a,f,d,b⟩
def wdF:Nat→Nat→List Nat
 |0,_=>[]
 |k+1,x=>x%256::wdF k (x/256)
def wd(x:Nat):List Nat:=wdF 8 x
def unw:List Nat→Nat
 |[]=>0
 |c::l=>c+256*unw l
theorem wdF_len(k x:Nat):(wdF k x).length=k:=by
 induction k generalizing x with
 |zero=>rfl
 |succ k a=>simp[wdF,a]
theorem wd_len(x:Nat):(wd x).length=8:=wdF_len 8 x
theorem wdF_lt(k x:Nat): ∀c∈wdF k x,c<256:=by
 induction k generalizing x with
 |zero=>intro c a;simp[wdF]at a
 |succ k b=>
  intro c a;simp only[wdF,List.mem_cons]at a;rcases a with rfl|a
  ·omega
  ·exact b _ c a
theorem unw_wdF(k x:Nat)(h:x<256^k):unw (wdF k x)=x:=by
 induction k generalizing x with
 |zero=>simp at h;simp[wdF,unw,h]
 |succ k a=>
  simp only[wdF,unw];rw[a (x/256) (by rw[Nat.pow_succ]at h;omega)];omega
theorem unw_wd(x:Nat)(h:x<18446744073709551616):unw (wd x)=x:=unw_wdF 8 x h
theorem unw_lt(l:List Nat)(h: ∀c∈l,c<256):unw l<256^l.length:=by
 induction l with
 |nil=>simp[unw]
 |cons c l a=>
  have:=a (fun d hd=>h d (by simp[hd]));have:=h c (by simp);simp only[unw,List.length_cons,Nat.pow_succ];omega
def takeW(l:List Nat):Nat × Nat:=if l.length<8 then(0,3)else(unw (l.take 8),0)
def takeRun(l:List Nat):List Nat × Nat × Nat:=
 match take l with
 |(n,at',0)=>if l.length-at'<n then([],0,3)else((l.drop at').take n,at'+n,0)
 |(_,_,e)=>([],0,e)
def encAll:List Nat→List Nat
 |[]=>[]
 |x::l=>enc x++encAll l
def tnums:Nat→List Nat→Nat→List Nat→List Nat × Nat × Nat
 |0,_,p,acc=>(acc,p,0)
 |k+1,l,p,acc=>
  match take (l.drop p)with
  |(x,n,0)=>if 4611686018427387904<x then([],0,4)else tnums k l (p+n) (acc++[x])
  |(_,_,e)=>([],0,e)
def takeNums(l:List Nat)(most:Int):List Nat × Nat × Nat:=
 match take l with
 |(c,p,0)=>if most<(c:Int)then([],0,6)else tnums c l p []
 |(_,_,e)=>([],0,e)
end Go.Proofs.YtfhoilcbhmeofaaGreat.Wm
namespace Go.Proofs.YtfhoilcbhmeofaaGreat

def c6(p:Prop):Prop:=p
theorem c6.o{p:Prop}(h:c6 p):p:=h
theorem c6.out{p:Prop}(h:c6 p):p:=h
theorem B4{P:Program}{f:FuncId}{a:Array Value}{w:World}{v:Ending}{Q:Ending→World→Prop}(h:Calls P f a w fun e w'=>e=v∧w'=w)(k:Q v w):Calls P f a w Q:=h.mono (by rintro e w' ⟨rfl,rfl⟩;exact k)
theorem c7{α:Sort _}(a:α): ∃x,x=a:=⟨a,rfl⟩
abbrev f8(w w':World):Prop:=Go.RowKit.Below w.heap.size w w'
abbrev f7:Type:=List Nat
abbrev n9:Type:=Nat→Prop
abbrev d9:Type:=World
theorem b9{p:Prop}(h:p):c6 p:=h
theorem zA{α:Type}(l:List α)(i:Nat)(a:α):l.toArray.setIfInBounds i a=(l.set i a).toArray:=List.setIfInBounds_toArray ..
theorem zB{α:Type}(x:α)(l:List α)(a:α):(x::l).set 0 a=a::l:=rfl
theorem zC{α:Type}(x:α)(l:List α)(i:Nat)(a:α):(x::l).set (i+1) a=x::l.set i a:=rfl
theorem zz{α:Type}:(∀(l:List α) (i:Nat) (a:α),l.toArray.setIfInBounds i a=(l.set i a).toArray)∧(∀(x:α) (l:List α) (a:α),(x::l).set 0 a=a::l)∧ ∀(x:α) (l:List α) (i:Nat) (a:α),(x::l).set (i+1) a=x::l.set i a:=⟨zA,zB,zC⟩
section

variable{P:Program}{md:Region.Mode}{ops:Array Oper}{Q:Exit→Act→World→Prop}{S:World→Prop}{fuel:Nat}{listed:Array Bool}{a:Act}{w:World}{o:Go.Op}{t:TypeId}{p:String}{f:Array Edge}{g:Option (Nat × Bool)}

theorem QG(i d:Nat)(v:Value)(hi:ops[i]?=some ⟨some d,o,t,p,f,g⟩)(hy: ∀w,S w→(execOp a.eval ⟨some d,o,t,p,f,g⟩).run P w= .ok (.value v) w)(hS:S w)
    (h:wpAnyH P md ops Q S fuel (listed.setIfInBounds i true) (a.put (some d) v) w)
    (hs:Region.noSelect ops=true:=by kernel_rfl) (hf:Region.free md ops listed i=true:=by kernel_rfl) (hr:(Region.ready md ops listed).contains i=true:=by kernel_rfl)
    (hQ: ∀c a w,Q (.panic c) (a.put (some d) v) w→Q (.panic c) a w:=by exact fun _ _ _ h=>h) (hw:Region.wanted ⟨some d,o,t,p,f,g⟩ (yielded ops a.tmps)=true:=by rfl):
    wpAnyH P md ops Q S (fuel+1) listed a w:=wpAnyH_take hi hs hf hr hQ (Or.inl ⟨hw,hy⟩) hS h
theorem tkH(i d:Nat){v:Value}(hi:ops[i]?=some ⟨some d,o,t,p,f,g⟩)(hS:S w)
    (h:wpAnyH P md ops Q S fuel (listed.setIfInBounds i true) (a.put (some d) v) w)
    (hs:Region.noSelect ops=true:=by kernel_rfl) (hf:Region.free md ops listed i=true:=by kernel_rfl) (hr:(Region.ready md ops listed).contains i=true:=by kernel_rfl)
    (hy: ∀w,S w→(execOp a.eval ⟨some d,o,t,p,f,g⟩).run P w= .ok (.value v) w:=by intro w hSw;(try dsimp only at hSw);go_simp;all_goals (with_reducible rfl))
    (hQ: ∀c a w,Q (.panic c) (a.put (some d) v) w→Q (.panic c) a w:=by exact fun _ _ _ h=>h) (hw:Region.wanted ⟨some d,o,t,p,f,g⟩ (yielded ops a.tmps)=true:=by rfl):
    wpAnyH P md ops Q S (fuel+1) listed a w:=wpAnyH_take hi hs hf hr hQ (Or.inl ⟨hw,hy⟩) hS h
theorem g6(i d:Nat){v:Value}{a':Act}(hi:ops[i]?=some ⟨some d,o,t,p,f,g⟩)(hS:S w)
    (h:wpAnyH P md ops Q S fuel (listed.setIfInBounds i true) a' w)
    (hs:Region.noSelect ops=true:=by kernel_rfl) (hf:Region.free md ops listed i=true:=by kernel_rfl) (hr:(Region.ready md ops listed).contains i=true:=by kernel_rfl)
    (hy: ∀w,S w→(execOp a.eval ⟨some d,o,t,p,f,g⟩).run P w= .ok (.value v) w:=by intro w hSw;(try dsimp only at hSw);go_simp;all_goals (with_reducible rfl))
    (ha:a.put (some d) v=a':=by(simp only[Act.put,zA,zB,zC])<;>rfl)
    (hQ: ∀c a w,Q (.panic c) (a.put (some d) v) w→Q (.panic c) a w:=by exact fun _ _ _ h=>h) (hw:Region.wanted ⟨some d,o,t,p,f,g⟩ (yielded ops a.tmps)=true:=by rfl):
    wpAnyH P md ops Q S (fuel+1) listed a w:=wpAnyH_take hi hs hf hr hQ (Or.inl ⟨hw,hy⟩) hS (ha▸h)
theorem C2(i d:Nat)(hi:ops[i]?=some ⟨some d,o,t,p,f,g⟩)(hS:S w)
    (h:wpAnyH P md ops Q S fuel (listed.setIfInBounds i true) (a.put (some d) undef) w)
    (hs:Region.noSelect ops=true:=by kernel_rfl) (hf:Region.free md ops listed i=true:=by kernel_rfl) (hr:(Region.ready md ops listed).contains i=true:=by kernel_rfl)
    (hQ: ∀c a w,Q (.panic c) (a.put (some d) undef) w→Q (.panic c) a w:=by exact fun _ _ _ h=>h) (hw:Region.wanted ⟨some d,o,t,p,f,g⟩ (yielded ops a.tmps)=false:=by rfl):
    wpAnyH P md ops Q S (fuel+1) listed a w:=wpAnyH_take hi hs hf hr hQ (Or.inr ⟨hw,rfl⟩) hS h
theorem C7(i d:Nat)(hi:ops[i]?=some ⟨some d,o,t,p,f,g⟩)
    (h: ∀K':Act→World→Prop,Shut (∀a w,S w→(S w→wpAnyH P md ops Q S fuel (listed.setIfInBounds i true) a w)→K' a w)→if Region.wanted ⟨some d,o,t,p,f,g⟩ (yielded ops a.tmps)=true then Oper.wp P ⟨some d,o,t,p,f,g⟩ a w K' Q else K' (a.put (some d) undef) w)
    (hr:Region.ready md ops listed=[i]:=by kernel_rfl):wpAnyH P md ops Q S (fuel+1) listed a w:=wpAnyH_ready hr (by simp) (AllReadyH.cons hi h AllReadyH.nil)
end

end Go.Proofs.YtfhoilcbhmeofaaGreat
namespace Go.Proofs.YtfhoilcbhmeofaaGreat

open Go.RowKit

def Sl(k:IntKind)(w:d9)(ao:Option Addr)(l:List Int):Prop:=
 ∀i,i<l.length→ ∃b off,ao=some ⟨b,off,none⟩∧w.cell? ⟨b,off+i,none⟩=some (.int k (l.getD i 0))
def Sv(k:IntKind)(w:d9)(v:Value)(l:List Int):Prop:=
 ∃ao cap,v= .slice ao l.length cap∧l.length≤cap∧cap≤maxLen∧(ao=none→cap=0)∧Sl k w ao l
def ib(l:f7):List Int:=l.map fun c:Nat=>(c:Int)
theorem i8(l:f7):(ib l).length=l.length:=by simp[ib]
theorem o7(l r:f7):ib (l++r)=ib l++ib r:=by simp[ib]
def Bv(w:d9)(v:Value)(l:f7):Prop:=Sv .u8 w v (ib l)∧ ∀c∈l,c<256
theorem c8{w:d9}{a:Addr}{u:Value}(h:w.cell? a=some u):a.block<w.heap.size:=World.block_lt_of_cell? w a h
theorem Sl.below{k:IntKind}{w w':d9}{ao:Option Addr}{l:List Int}(h:Sl k w ao l)(hb:f8 w w'):Sl k w' ao l:=by
 intro i d;obtain⟨b,a,e,c⟩:=h i d;exact⟨b,a,e,by rw[hb.cell (p:=⟨b,a+i,none⟩) (c8 c)];exact c⟩
theorem Sv.below{k:IntKind}{w w':d9}{v:Value}{l:List Int}(h:Sv k w v l)(hb:f8 w w'):Sv k w' v l:=by
 obtain⟨g,a,e,f,d,c,b⟩:=h;exact⟨g,a,e,f,d,c,b.below hb⟩
theorem Bv.below{w w':d9}{v:Value}{l:f7}(h:Bv w v l)(hb:f8 w w'):Bv w' v l:=⟨h.1.below hb,h.2⟩
theorem a8(w:d9)(o:Obj):f8 w (w.alloc o):=(Below.refl _ _).alloc (Nat.le_refl _) o
theorem a9{w w1 w2:d9}(h:f8 w w1)(k:f8 w1 w2):f8 w w2:=
 h.trans (k.mono h.size)
theorem J8(w:d9):f8 w w.drew:=(Below.refl _ _).drew
theorem d8(w:d9)(n:Nat):f8 w (w.drewN n):=⟨rfl,rfl,rfl,Nat.le_refl _,fun _ _=>rfl⟩
theorem Sv.nil(k:IntKind)(w:d9):Sv k w (.slice none 0 0) []:=⟨none,0,rfl,Nat.le_refl _,by simp[maxLen],fun _=>rfl,fun i hi=>by simp at hi⟩
theorem Bv.nil(w:d9):Bv w (.slice none 0 0) []:=⟨Sv.nil _ _,by simp⟩
theorem z9{k:IntKind}{w:d9}{base e n:Nat}{v:Value}{l:List Int}(h:w.ownsRow base e 1 v n (l.map (Value.int k))):Sv k w v l:=by
 obtain⟨q,p⟩:=h;have j:l.length=n:=by simpa using q
 subst j;rcases p with ⟨rfl,r⟩|⟨g,d,cur,rfl,t,o,b,c,s,a⟩
 ·have:l=[]:=List.eq_nil_of_length_eq_zero r;subst this;exact Sv.nil k w
 ·refine⟨_,d,rfl,b,c,by simp,fun i m=>⟨g,0,rfl,?_⟩⟩;rw[Nat.zero_add,cell_of_row w g i cur e (0,0) o];have f:(cur.toList.take (l.length*1))[i]?=(l.map (Value.int k))[i]?:=by rw[a]
  rw[List.getElem?_take,if_pos (by omega)]at f;rw[←Array.getElem?_toList,f];simp[List.getElem?_eq_getElem m,List.getD]
theorem p7{w:d9}{base e n:Nat}{v:Value}{l:f7}(h:w.ownsRow base e 1 v n ((ib l).map (Value.int .u8)))(hl: ∀c∈l,c<256):Bv w v l:=⟨z9 h,hl⟩
theorem Gy(k:IntKind)(w:d9)(e:TypeId)(l:List Int)(hm:l.length≤maxLen):
  Sv k (w.alloc (.cells (l.map (Value.int k)).toArray e)) (.slice (some ⟨w.heap.size,0,none⟩) l.length l.length) l:=by
 have:=World.ownsRow_lit (base:=w.heap.size) (e:=e) (size:=1) w (l.map (Value.int k)).toArray l.length (Nat.le_refl _) hm (by simp);exact z9 (by simpa using this)
theorem g7{P:Program}{w:d9}{ops:Array Oper}{rest:List Oper}{o:Oper}{a:Act}{Q:Exit→Act→d9→Prop}(hgd:o.guard=none)(s x:Operand)(t:TypeId)
  (ho:o.op= .call {callee:= .builtin .append,args:= #[s,x],argTypes:= #[t,t]})
  (base:Nat) (e:TypeId) (k:IntKind) (bytes:Nat) (ht:P.underlying t=some (.slice e)) (hinf:(P.info? e).map (fun i=>(i.zero,i.size,i.bytes))=some (some (.int k 0),1,bytes))
  (v:Value) (n:Nat) (xs:List Value) (hs:a.eval s=v) (hown:w.ownsRow base e 1 v n xs)
  (y:Value) (l:List Int) (hx:a.eval x=y) (hy:Sv k w y l)
  (h63:n+l.length≤maxLen) (hbytes:(n+l.length)*bytes≤140737488355328) (hbase:base≤w.heap.size)
  (h: ∀v' w',w'.ownsRow base e 1 v' (n+l.length) (xs++l.map (Value.int k))→w.grownBy w' v.ownBlock→wpList P ops Q rest (a.put o.dst v') w'):wpList P ops Q (o::rest) a w:=by
 obtain⟨i0,C,r,q,m⟩:=info_parts hinf;obtain⟨J,B,rfl,M,L,f,c⟩:=hy
 cases J with
 |none=>
  obtain rfl:=f rfl;have A:l.length=0:=by omega
  have E:=List.eq_nil_of_length_eq_zero A;subst E;refine wpList_append_own_none hgd s x t ho base e i0 1 ht C v n xs hs hown hx ?_;exact h v w (by simpa using hown) ⟨rfl,rfl,rfl,Nat.le_refl _,fun _ _ _=>rfl⟩
 |some p=>
  refine wpList_append_own w hgd s x t ho base e i0 (.int k 0) 1 bytes ht C r q m rfl (by decide) v n xs hs hown p l.length B (l.map (Value.int k)) hx (by simp) ?_ ?_ h63 hbytes hbase
   (fun v' w' G F _=>h v' w' G F)
  ·intro j u g
   have d:j<l.length:=by
    rcases Nat.lt_or_ge j l.length with h|h
    ·exact h
    ·simp[List.getElem?_eq_none (show(l.map (Value.int k)).length≤j by simpa using h)]at g
   obtain⟨b,K,I,H⟩:=c j d
   cases I
   rw[WideShapes.add_plain,H];simp[List.getElem?_eq_getElem d]at g;simp[List.getD,List.getElem?_eq_getElem d,g]
  ·intro u D;obtain⟨z,_,rfl⟩:=List.mem_map.1 D;rfl
theorem U9{B:Nat}{w w':d9}{v:Value}{e n:Nat}{xs:List Value}(hown:w.ownsRow B e 1 v n xs)(hg:w.grownBy w' v.ownBlock)(hB:B≤w.heap.size):Below B w w':=
 (Below.refl B w).grown hg hB (fun k hk=>(hown.lt k hk).1)
theorem Sl.cut{k:IntKind}{w:d9}{ao:Option Addr}{l:List Int}(h:Sl k w ao l)(lo hi:Nat)(hlh:lo≤hi)(hh:hi≤l.length)(c:Prop) [Decidable c](hc:lo<hi→ ¬c):
  Sl k w (if c then ao else ao.map (·.add lo)) ((l.drop lo).take (hi-lo)):=by
 intro i g;have f:i<hi-lo:=by simp at g;omega
 obtain⟨b,d,e,a⟩:=h (lo+i) (by omega);subst e;refine⟨b,d+lo,?_,?_⟩
 ·rw[if_neg (hc (by omega))];simp[WideShapes.add_plain]
 ·rw[Nat.add_assoc,a];simp[List.getD,f,List.getElem?_drop]
theorem zI(l:f7)(lo n:Nat):((ib l).drop lo).take n=ib ((l.drop lo).take n):=by
 simp[ib]
theorem Bv.cut{w:d9}{ao:Option Addr}{cap:Nat}{l:f7}(h:Bv w (.slice ao l.length cap) l)(lo hi:Nat)(hlh:lo≤hi)(hh:hi≤l.length)(c:Prop) [Decidable c](hc:c↔cap=lo):
  Bv w (.slice (if c then ao else ao.map (·.add lo)) (hi-lo) (cap-lo)) ((l.drop lo).take (hi-lo)):=by
 obtain⟨⟨ao',cap',e,j,m,i,g⟩,f⟩:=h;simp only[Value.slice.injEq,i8]at e;obtain⟨rfl,_,rfl⟩:=e;rw[i8]at j;refine⟨⟨if c then ao else ao.map (·.add lo),cap-lo,?_,?_,by omega,?_,?_⟩,?_⟩
 ·rw[i8];simp;omega
 ·rw[i8];simp;omega
 ·intro b;by_cases a:c
  ·have:=hc.1 a;omega
  ·rw[if_neg a]at b
   cases ao with
   |none=>have:=i rfl;omega
   |some p=>simp at b
 ·rw[←zI];exact g.cut lo hi hlh (by rw[i8];exact hh) c (fun k a=>by have:=hc.1 a;omega)
 ·intro d hd;exact f d (List.mem_of_mem_drop (List.mem_of_mem_take hd))
def BB(l:f7):ByteArray:=strOfNums (ib l)
theorem Al{l r:f7}(hl: ∀c∈l,c<256)(hr: ∀c∈r,c<256)(h:BB l=BB r):l=r:=by
 have hd:(BB l).data.toList=(BB r).data.toList:=by rw[h]
 simp only[BB,strOfNums_data,ib,List.map_map]at hd
 have key: ∀(l r:f7),(∀c∈l,c<256)→(∀c∈r,c<256)→
   l.map ((fun n:Int=>UInt8.ofNat n.toNat)∘fun c:Nat=>(c:Int))=r.map ((fun n:Int=>UInt8.ofNat n.toNat)∘fun c:Nat=>(c:Int))→l=r:=by
  intro l
  induction l with
  |nil=>intro r _ _ h;cases r with
   |nil=>rfl
   |cons a r=>simp at h
  |cons a l e=>
   intro r hl hr h
   cases r with
   |nil=>simp at h
   |cons b r=>
    simp only[List.map_cons,List.cons.injEq]at h;obtain⟨g,f⟩:=h;have j:=hl a (by simp);have i:=hr b (by simp);have:=congrArg UInt8.toNat g;simp at this;rw[e r (fun c d=>hl c (by simp[d])) (fun c d=>hr c (by simp[d])) f];congr 1;omega
 exact key l r hl hr hd
theorem Bv.str{P:Program}{w:d9}{v:Value}{l:f7}(h:Bv w v l)(src e dst:TypeId)(hs:P.underlying src=some (.slice e))(he:P.underlying e=some (.int .u8))(hd:P.underlying dst=some .string):
  (convert src dst v).run P w= .ok (.string (BB l)) w:=by
 obtain⟨⟨n,c,rfl,t,s,r,d⟩,q⟩:=h;by_cases f:l=[]
 ·subst f
  cases n with
  |none=>rw[run_convert_bytes_nil w src e hs he _ _ dst hd];rfl
  |some p=>
   obtain⟨b,a,sp⟩:=p;have g:(loadCells ⟨b,a,sp⟩ 0).run P w= .ok (([]:List Int).map (Value.int .u8)).toArray w:=by simp[loadCells,loadCellsFrom]
   rw[run_convert_bytes_string w src dst e _ _ c hs he hd];exact run_bytesToString w _ 0 c [] g
 ·obtain⟨b,a,rfl,o⟩:=d 0 (by rw[i8];exact List.length_pos_iff.2 f);refine run_convert_bytes_arg w src e hs he b a _ c (ib l) rfl (fun i j=>?_) dst hd;obtain⟨b',off',m,k⟩:=d i j
  cases m
  exact k
end Go.Proofs.YtfhoilcbhmeofaaGreat
namespace Go.Proofs.YtfhoilcbhmeofaaGreat

open Ieee

def D6(x:Nat):Nat:=x%9223372036854775808
def J0(x:Nat):Bool:=decide (9223372036854775808≤x)
def L4(x:Nat):Bool:=decide (9218868437227405312<D6 x)
def yX(r:Nat):Nat:=if r<4503599627370496 then r else 4503599627370496+r%4503599627370496
def sh(r:Nat):Nat:=r/4503599627370496-1
def V(r:Nat):Nat:=yX r*2^sh r
def key(x:Nat):Int:=if J0 x then-(D6 x:Int)else D6 x
theorem sw:Ieee.double.signWeight=9223372036854775808:=by decide
theorem bn:Ieee.double.binade=4503599627370496:=by decide
theorem ir:Ieee.double.infRung=9218868437227405312:=by decide
theorem lp:Ieee.double.leastPlace= -1074:=by decide
theorem lY{x:Nat}(hx:x<18446744073709551616)(h:D6 x<9218868437227405312):
  Ieee.double.read x= .number (J0 x) (yX (D6 x)) (-1074+(sh (D6 x):Nat)):=by
 unfold Format.read;simp only[sw,bn,ir,lp]
 have b:(x/9223372036854775808%2==1)=J0 x:=by
  unfold J0;rw[Bool.eq_iff_iff];simp;omega
 rw[b];change (if D6 x<_ then _ else if D6 x<_ then _ else _)=_;by_cases a:D6 x<4503599627370496
 ·rw[if_pos a];unfold yX sh;rw[if_pos a,Nat.div_eq_of_lt a];rfl
 ·rw[if_neg a,if_pos h];unfold yX sh;rw[if_neg a];rfl
theorem lZ{x:Nat}(hx:x<18446744073709551616)(h:D6 x=9218868437227405312):
  Ieee.double.read x= .infinity (J0 x):=by
 unfold Format.read;simp only[sw,bn,ir,lp]
 have a:(x/9223372036854775808%2==1)=J0 x:=by
  unfold J0;rw[Bool.eq_iff_iff];simp;omega
 rw[a];change (if D6 x<_ then _ else if D6 x<_ then _ else if D6 x=_ then _ else _)=_;rw[if_neg (by omega),if_neg (by omega),if_pos h]
theorem CJ{x:Nat}(hx:x<18446744073709551616)(h:9218868437227405312<D6 x):
  Ieee.double.read x= .nan (J0 x) (D6 x-9218868437227405312):=by
 unfold Format.read;simp only[sw,bn,ir,lp]
 have a:(x/9223372036854775808%2==1)=J0 x:=by
  unfold J0;rw[Bool.eq_iff_iff];simp;omega
 rw[a];change (if D6 x<_ then _ else if D6 x<_ then _ else if D6 x=_ then _ else _)=_;rw[if_neg (by omega),if_neg (by omega),if_neg (by omega)];rfl
theorem KT(r:Nat):yX r<9007199254740992:=by unfold yX;split<;>omega
theorem PM{r:Nat}(h:r<9007199254740992):V r=r:=by
 unfold V yX sh;by_cases a:r<4503599627370496
 ·rw[if_pos a,Nat.div_eq_of_lt a];simp
 ·rw[if_neg a,show r/4503599627370496=1 by omega];simp;omega
theorem Lt{r s:Nat}(h:r<s):V r<V s:=by
 by_cases a:s<9007199254740992
 ·rw[PM a,PM (Nat.lt_trans h a)];exact h
 have ms:4503599627370496≤yX s:=by unfold yX;split<;>omega
 by_cases b:r/4503599627370496=s/4503599627370496
 ·unfold V;have:sh r=sh s:=by unfold sh;rw[b]
  rw[this];refine Nat.mul_lt_mul_of_pos_right ?_ (Nat.two_pow_pos _);unfold yX;rw[if_neg (by omega),if_neg (by omega)];omega
 ·have e:sh r+1≤sh s:=by unfold sh;omega
  have d:2^(sh r+1)≤2^sh s:=Nat.pow_le_pow_right (by omega) e;have c:=KT r;have g:yX r*2^sh r<9007199254740992*2^sh r:=Nat.mul_lt_mul_of_pos_right c (Nat.two_pow_pos _);have f:4503599627370496*2^sh s≤yX s*2^sh s:=Nat.mul_le_mul_right _ ms;unfold V;rw[Nat.pow_succ]at d;omega
theorem Lr{r s:Nat}:V r<V s↔r<s:=by
 constructor
 ·intro h;rcases Nat.lt_trichotomy r s with a|a|a
  ·exact a
  ·subst a;omega
  ·have:=Lt a;omega
 ·exact Lt
def kT(a b:Int):Ordering:=if a<b then .lt else if a=b then .eq else .gt
theorem FZ(a b:Int):compare a b=kT a b:=rfl
theorem YZ(a b:Int)(c:Int)(hc:0<c):kT (a*c) (b*c)=kT a b:=by
 unfold kT;have e:a*c<b*c↔a<b:=⟨fun h=>Int.lt_of_mul_lt_mul_right h (Int.le_of_lt hc),fun h=>Int.mul_lt_mul_of_pos_right h hc⟩;have d:a*c=b*c↔a=b:=⟨fun h=>Int.eq_of_mul_eq_mul_right (by omega) h,fun h=>by rw[h]⟩;simp only[e,d]
theorem rB(s:Bool)(m a c:Nat)(h:c≤a):signed s m (a-c)*(2^c:Nat)=if s then-((m*2^a:Nat):Int)else((m*2^a:Nat):Int):=by
 unfold signed
 have:m<<<(a-c)*2^c=m*2^a:=by
  rw[Nat.shiftLeft_eq,Nat.mul_assoc,←Nat.pow_add];congr 2;omega
 cases s
 ·simp only[Bool.false_eq_true,if_false];rw[←Int.natCast_mul,this]
 ·simp only[if_true];rw[Int.neg_mul,←Int.natCast_mul,this]
theorem tX(s t:Bool)(m n a b:Nat):
  (Datum.number s m (-1074+(a:Nat))).order (.number t n (-1074+(b:Nat)))=some (kT (if s then-((m*2^a:Nat):Int)else((m*2^a:Nat):Int)) (if t then-((n*2^b:Nat):Int)else((n*2^b:Nat):Int))):=by
 have d:((-1074+(a:Int))-min (-1074+(a:Int)) (-1074+(b:Int))).toNat=a-min a b:=by omega
 have c:((-1074+(b:Int))-min (-1074+(a:Int)) (-1074+(b:Int))).toNat=b-min a b:=by omega
 simp only[Datum.order,d,c,FZ];congr 1;rw[←rB s m a (min a b) (by omega),←rB t n b (min a b) (by omega)];exact(YZ _ _ _ (by have:=Nat.two_pow_pos (min a b);omega)).symm
theorem TR(s t:Bool)(r q:Nat):
  kT (if s then-((V r:Nat):Int)else((V r:Nat):Int)) (if t then-((V q:Nat):Int)else((V q:Nat):Int))=kT (if s then-(r:Int)else r) (if t then-(q:Int)else q):=by
 have a:V 0=0:=by decide
 have e:= @Lr r q;have d:= @Lr q r;have c:= @Lr 0 r;have b:= @Lr 0 q;rw[a]at c b;unfold kT
 cases s<;>cases t<;>simp only[Bool.false_eq_true,if_false,if_true]<;>(repeat' split)<;>first|rfl|(exfalso;omega)
theorem dY{x y:Nat}(hx:x<18446744073709551616)(hy:y<18446744073709551616)(nx:L4 x=false)(ny:L4 y=false):
  Ieee.double.order x y=some (kT (key x) (key y)):=by
 have nx': ¬9218868437227405312<D6 x:=by simpa[L4]using nx
 have ny': ¬9218868437227405312<D6 y:=by simpa[L4]using ny
 unfold Format.order;by_cases ix:D6 x=9218868437227405312<;>by_cases iy:D6 y=9218868437227405312
 ·rw[lZ hx ix,lZ hy iy];unfold key;rw[ix,iy]
  cases J0 x<;>cases J0 y<;>rfl
 ·rw[lZ hx ix,lY hy (by omega)];have:D6 y<9218868437227405312:=by omega
  unfold key kT;rw[ix]
  cases J0 x<;>cases J0 y<;>simp only[Datum.order,Bool.false_eq_true,if_false,if_true]<;>refine congrArg some ?_<;>(repeat' split)<;>first|rfl|(exfalso;omega)
 ·rw[lZ hy iy,lY hx (by omega)];have:D6 x<9218868437227405312:=by omega
  unfold key kT;rw[iy]
  cases J0 x<;>cases J0 y<;>simp only[Datum.order,Bool.false_eq_true,if_false,if_true]<;>refine congrArg some ?_<;>(repeat' split)<;>first|rfl|(exfalso;omega)
 ·rw[lY hx (by omega),lY hy (by omega),tX];congr 1;exact TR _ _ _ _
theorem V7{x y:Nat}(hx:x<18446744073709551616)(nx:L4 x=true):Ieee.double.order x y=none:=by
 have nx':9218868437227405312<D6 x:=by simpa[L4]using nx
 unfold Format.order;rw[CJ hx nx'];rfl
theorem aN{x y:Nat}(hy:y<18446744073709551616)(ny:L4 y=true):Ieee.double.order x y=none:=by
 have ny':9218868437227405312<D6 y:=by simpa[L4]using ny
 unfold Format.order;rw[CJ hy ny'];generalize Ieee.double.read x=d;generalize D6 y-9218868437227405312=f
 cases d<;>rfl
theorem KR{x:Nat}(hx:x<18446744073709551616):(Ieee.double.order x x !=some .eq)=L4 x:=by
 cases h:L4 x
 ·rw[dY hx hx h h];simp[kT]
 ·rw[V7 hx h];rfl
def R9(x:Nat):Int:=if L4 x then 9223372036854775807 else if J0 x then-1-((x:Int)-9223372036854775808)else x
def bV(a b:Nat):Int:=if R9 a<R9 b then-1 else if R9 b<R9 a then 1 else 0
def F4(x:Nat):Nat:=if L4 x then 9221120237041090561 else x
def O6(a b:Nat):Nat:=if R9 a≤R9 b then F4 a else F4 b
def V9(a b:Nat):Nat:=if R9 b≤R9 a then F4 a else F4 b
theorem cQ{x:Nat}(h:J0 x=true):9223372036854775808≤x:=by simpa[J0]using h
theorem bW{x:Nat}(h:J0 x=false):x<9223372036854775808:=by simpa[J0]using h
theorem Fj{x:Nat}(h:L4 x=true):9218868437227405312<D6 x:=by simpa[L4]using h
theorem Fk{x:Nat}(h:L4 x=false):D6 x≤9218868437227405312:=by simpa[L4]using h
theorem lQ(x:Nat):D6 x<9223372036854775808:=Nat.mod_lt _ (by omega)
theorem Z4{x:Nat}(hx:x<18446744073709551616):D6 x=if J0 x then x-9223372036854775808 else x:=by
 unfold D6 J0;simp only[decide_eq_true_eq];split<;>omega
theorem Ho{a b:Nat}(ha:a<18446744073709551616)(hb:b<18446744073709551616)(h:Ieee.double.order a b=some .lt):bV a b= -1:=by
 cases na:L4 a
 ·cases nb:L4 b
  ·rw[dY ha hb na nb]at h
   have d:key a<key b:=by
    unfold kT at h;split at h
    ·assumption
    ·split at h<;>cases h
   have ra:=Z4 ha;have e:=Z4 hb;unfold bV R9;rw[na,nb];unfold key at d
   cases sa:J0 a<;>cases c:J0 b<;>(have ga:=sa;have gb:=c;simp only[sa,c,Bool.false_eq_true,if_false,if_true]at d ra e⊢)<;>(first|replace ga:=cQ ga|replace ga:=bW ga)<;>(first|replace gb:=cQ gb|replace gb:=bW gb)<;>(rw[if_pos (by omega)])
  ·rw[aN hb nb]at h;cases h
 ·rw[V7 ha na]at h;cases h
theorem Hp{a b:Nat}(ha:a<18446744073709551616)(hb:b<18446744073709551616)(h:Ieee.double.order a b=some .gt):bV a b=1:=by
 cases na:L4 a
 ·cases nb:L4 b
  ·rw[dY ha hb na nb]at h
   have d:key b<key a:=by
    unfold kT at h;split at h
    ·cases h
    ·split at h
     ·cases h
     ·omega
   have ra:=Z4 ha;have e:=Z4 hb;unfold bV R9;rw[na,nb];unfold key at d
   cases sa:J0 a<;>cases c:J0 b<;>(have ga:=sa;have gb:=c;simp only[sa,c,Bool.false_eq_true,if_false,if_true]at d ra e⊢)<;>(first|replace ga:=cQ ga|replace ga:=bW ga)<;>(first|replace gb:=cQ gb|replace gb:=bW gb)<;>(rw[if_neg (by omega),if_pos (by omega)])
  ·rw[aN hb nb]at h;cases h
 ·rw[V7 ha na]at h;cases h
theorem Hq{a b:Nat}(ha:a<18446744073709551616)(hb:b<18446744073709551616)(h:Ieee.double.order a b=some .eq):
  bV a b=if J0 a=J0 b then 0 else if J0 a then-1 else 1:=by
 cases na:L4 a
 ·cases nb:L4 b
  ·rw[dY ha hb na nb]at h
   have d:key a=key b:=by
    unfold kT at h;split at h
    ·cases h
    ·split at h
     ·assumption
     ·cases h
   have ra:=Z4 ha;have e:=Z4 hb;unfold bV R9;rw[na,nb];unfold key at d
   cases sa:J0 a<;>cases c:J0 b<;>(have ga:=sa;have gb:=c;simp only[sa,c,Bool.false_eq_true,if_false,if_true]at d ra e⊢)<;>(first|replace ga:=cQ ga|replace ga:=bW ga)<;>(first|replace gb:=cQ gb|replace gb:=bW gb)<;>(try simp only[reduceCtorEq,if_false])<;>(repeat' split)<;>omega
  ·rw[aN hb nb]at h;cases h
 ·rw[V7 ha na]at h;cases h
theorem WT{a b:Nat}(ha:a<18446744073709551616)(hb:b<18446744073709551616)(h:Ieee.double.order a b=none):
  bV a b=if L4 a=L4 b then 0 else if L4 b then-1 else 1:=by
 have ra:=Z4 ha;have c:=Z4 hb;have d:=lQ a;have lb:=lQ b
 cases na:L4 a<;>cases nb:L4 b
 ·rw[dY ha hb na nb]at h;cases h
 ·unfold bV R9;rw[na,nb];unfold L4 at na nb;simp only[decide_eq_true_eq,decide_eq_false_iff_not]at na nb
  cases sa:J0 a<;>(have ga:=sa;simp only[sa,Bool.false_eq_true,if_false,if_true]at ra⊢)<;>(first|replace ga:=cQ ga|replace ga:=bW ga)<;>(simp;omega)
 ·unfold bV R9;rw[na,nb];unfold L4 at na nb;simp only[decide_eq_true_eq,decide_eq_false_iff_not]at na nb
  cases sb:J0 b<;>(have gb:=sb;simp only[sb,Bool.false_eq_true,if_false,if_true]at c⊢)<;>(first|replace gb:=cQ gb|replace gb:=bW gb)<;>(simp;omega)
 ·unfold bV R9;rw[na,nb];simp
end Go.Proofs.YtfhoilcbhmeofaaGreat
namespace Go.Proofs.YtfhoilcbhmeofaaGreat

theorem aB(x:Nat)(w:d9):(callFunc 209 #[.float .f64 x]).run Tryz.prog w= .ok (.value (.int .u64 x)) w:=by
 rw[run_callFunc_extern (e:=Extern.MathFloatBits.float64bits) Tryz.func209 (by kernel_rfl) (by kernel_rfl) (by kernel_rfl) (by kernel_rfl)];rfl
theorem K8(x:Int)(w:d9):(callFunc 205 #[.int .u64 x]).run Tryz.prog w= .ok (.value (.float .f64 x.toNat)) w:=by
 rw[run_callFunc_extern (e:=Extern.MathFloatBits.float64frombits) Tryz.func205 (by kernel_rfl) (by kernel_rfl) (by kernel_rfl) (by kernel_rfl)];rfl
attribute [local go_sem] aB K8
theorem G2{k:IntKind}{a b:Int}(h:a=b):Ending.returned (.int k a)= .returned (.int k b):=by rw[h]
theorem Q4{a b:Bool}(h:a=b):Ending.returned (.bool a)= .returned (.bool b):=by rw[h]
theorem K4{k:FloatKind}{a b:Nat}(h:a=b):Ending.returned (.float k a)= .returned (.float k b):=by rw[h]
theorem kF{x:Nat}(hx:x<18446744073709551616)(w:d9):
  Calls Tryz.prog 210 #[.float .f64 x] w fun e w'=>e= .returned (.bool (L4 x))∧w'=w:=by
 go_in;go_wp2;all_goals (go_ret;exact⟨Q4 (KR hx),rfl⟩)
def Fw(a b:Bool):Int:=if a=b then 0 else if b then-1 else 1
theorem sM(a b:Bool)(w:d9):
  Calls Tryz.prog 240 #[.bool a,.bool b] w fun e w'=>e= .returned (.int .i64 (Fw a b))∧w'=w:=by
 cases a<;>cases b<;>
 ·go_in;go_wp2;all_goals (go_ret;exact⟨rfl,rfl⟩)
theorem lN{x:Nat}(hx:x<18446744073709551616)(w:d9):
  Calls Tryz.prog 241 #[.float .f64 x] w fun e w'=>e= .returned (.bool (J0 x))∧w'=w:=by
 go_in;go_wp2;all_goals (go_ret;exact⟨Q4 (by unfold J0 RowKit.wrap64;rw[Bool.eq_iff_iff];simp;omega),rfl⟩)
theorem cE{x:Nat}(hx:x<18446744073709551616)(w:d9):
  Calls Tryz.prog 180 #[.float .f64 x] w fun e w'=>e= .returned (.float .f64 (F4 x))∧w'=w:=by
 cases h:L4 x
 all_goals
  go_in;go_wp2_with (go_at_call 210;refine(kF hx _).mono ?_;rintro e w' ⟨rfl,rfl⟩);go_ret;exact⟨K4 (by unfold F4;rw[h];rfl),rfl⟩
theorem eW{a b:Nat}(ha:a<18446744073709551616)(hb:b<18446744073709551616)(w:d9):
  Calls Tryz.prog 232 #[.float .f64 a,.float .f64 b] w fun e w'=>e= .returned (.int .i64 (bV a b))∧w'=w:=by
 cases h:FloatKind.f64.format.order a b with
 |none=>
  go_in;go_wp2_with fail;refine(kF ha _).mono ?_;rintro e w' ⟨rfl,rfl⟩;go_wp2_with fail;refine(kF hb _).mono ?_;rintro e w' ⟨rfl,rfl⟩;go_wp2_with fail;refine(sM _ _ _).mono ?_;rintro e w' ⟨rfl,rfl⟩;go_wp2_with fail;go_ret;exact⟨G2 (WT ha hb h).symm,rfl⟩
 |some o=>
  cases o with
  |lt=>
   go_in;go_wp2_with fail;go_ret;exact⟨G2 (Ho ha hb h).symm,rfl⟩
  |gt=>
   go_in;go_wp2_with fail;go_ret;exact⟨G2 (Hp ha hb h).symm,rfl⟩
  |eq=>
   go_in;go_wp2_with fail;refine(lN ha _).mono ?_;rintro e w' ⟨rfl,rfl⟩;go_wp2_with fail;refine(lN hb _).mono ?_;rintro e w' ⟨rfl,rfl⟩;go_wp2_with fail;refine(sM _ _ _).mono ?_;rintro e w' ⟨rfl,rfl⟩;go_wp2_with fail;go_ret;exact⟨G2 (by rw[Hq ha hb h];unfold Fw;cases J0 a<;>cases J0 b<;>rfl),rfl⟩
theorem DE{a b:Nat}:bV a b<0↔R9 a<R9 b:=by unfold bV;split<;>(try split)<;>omega
theorem DD{a b:Nat}:0<bV a b↔R9 b<R9 a:=by unfold bV;split<;>(try split)<;>omega
theorem iH{x:Nat}(hx:x<18446744073709551616):F4 x<18446744073709551616:=by unfold F4;split<;>omega
theorem jR{a b:Nat}(ha:a<18446744073709551616)(hb:b<18446744073709551616)(h:R9 a=R9 b):F4 a=F4 b:=by
 have ra:=Z4 ha;have d:=Z4 hb;have e:=lQ a;have lb:=lQ b;unfold R9 at h;unfold F4
 cases na:L4 a<;>cases nb:L4 b<;>rw[na,nb]at h<;>(first|replace na:=Fj na|replace na:=Fk na)<;>(first|replace nb:=Fj nb|replace nb:=Fk nb)<;>
 cases sa:J0 a<;>cases c:J0 b<;>(have ga:=sa;have gb:=c;simp only[sa,c,Bool.false_eq_true,if_false,if_true]at h ra d⊢)<;>(first|replace ga:=cQ ga|replace ga:=bW ga)<;>(first|replace gb:=cQ gb|replace gb:=bW gb)<;>omega
theorem KU{a b:Nat}(ha:a<18446744073709551616)(hb:b<18446744073709551616)(w:d9):
  Calls Tryz.prog 212 #[.float .f64 a,.float .f64 b] w fun e w'=>e= .returned (.float .f64 (O6 a b))∧w'=w:=by
 by_cases h:bV a b<0
 ·go_in;go_wp2_with fail;refine(eW ha hb _).mono ?_;rintro e w' ⟨rfl,rfl⟩;go_wp2_with fail;refine(cE ha _).mono ?_;rintro e w' ⟨rfl,rfl⟩;go_wp2_with fail;go_ret;have:=DE.1 h;exact⟨K4 (by unfold O6;rw[if_pos (by omega)]),rfl⟩
 ·go_in;go_wp2_with fail;refine(eW ha hb _).mono ?_;rintro e w' ⟨rfl,rfl⟩;go_wp2_with fail;refine(cE hb _).mono ?_;rintro e w' ⟨rfl,rfl⟩;go_wp2_with fail;go_ret;have c: ¬R9 a<R9 b:=fun k=>by have:=DE.2 k;omega
  refine⟨K4 ?_,rfl⟩;unfold O6
  split
  ·exact(jR ha hb (by omega)).symm
  ·rfl
theorem SV{a b:Nat}(ha:a<18446744073709551616)(hb:b<18446744073709551616)(w:d9):
  Calls Tryz.prog 213 #[.float .f64 a,.float .f64 b] w fun e w'=>e= .returned (.float .f64 (V9 a b))∧w'=w:=by
 by_cases h:0<bV a b
 ·go_in;go_wp2_with fail;refine(eW ha hb _).mono ?_;rintro e w' ⟨rfl,rfl⟩;go_wp2_with fail;refine(cE ha _).mono ?_;rintro e w' ⟨rfl,rfl⟩;go_wp2_with fail;go_ret;have:=DD.1 h;exact⟨K4 (by unfold V9;rw[if_pos (by omega)]),rfl⟩
 ·go_in;go_wp2_with fail;refine(eW ha hb _).mono ?_;rintro e w' ⟨rfl,rfl⟩;go_wp2_with fail;refine(cE hb _).mono ?_;rintro e w' ⟨rfl,rfl⟩;go_wp2_with fail;go_ret;have c: ¬R9 b<R9 a:=fun k=>by have:=DD.2 k;omega
  refine⟨K4 ?_,rfl⟩;unfold V9
  split
  ·exact(jR ha hb (by omega)).symm
  ·rfl
def Y9(x:Nat):Int:=if L4 x then 5 else if 9218868437227405312≤D6 x then 4 else if 4503599627370496≤D6 x then 3 else if 0<D6 x then 2 else 1
end Go.Proofs.YtfhoilcbhmeofaaGreat
namespace Go.Proofs.YtfhoilcbhmeofaaGreat

open Ieee

end Go.Proofs.YtfhoilcbhmeofaaGreat
namespace Go.Proofs.YtfhoilcbhmeofaaGreat

open Ieee Go.RowKit

def wn(r:Nat):Nat:=if 1074≤sh r then yX r*2^(sh r-1074)else yX r/2^(1074-sh r)
def gC(x:Nat):Int:=if L4 x then 0 else if 4890909195324358656≤D6 x then(if J0 x then-9223372036854775808 else 9223372036854775807)else if J0 x then-(wn (D6 x):Int)else wn (D6 x)
theorem Ey{r:Nat}(h:r<4890909195324358656):wn r<9223372036854775808:=by
 have b:=KT r;unfold wn
 split
 ·rename_i c
  have e:sh r≤1084:=by unfold sh;omega
  have a:2^(sh r-1074)≤2^10:=Nat.pow_le_pow_right (by omega) (by omega);have d:yX r*2^(sh r-1074)≤yX r*2^10:=Nat.mul_le_mul_left _ a;omega
 ·have:=Nat.div_le_self (yX r) (2^(1074-sh r));omega
end Go.Proofs.YtfhoilcbhmeofaaGreat
namespace Go.Proofs.YtfhoilcbhmeofaaGreat

open Ieee Go.RowKit

structure Vl where
 h:Bool
 b:Nat
def Vl.ok(v:Vl):Prop:=v.b<18446744073709551616
def K0:Vl:=⟨false,0⟩
def s9(k:Int):Bool:=decide (1≤k)&&decide (k≤4)
def wZ(x:Nat):Nat:=(IntKind.u64.wrap (gC x)).toNat
def UF(k:Int)(x:Nat):Vl:=if k=1 then⟨true,1⟩else if k=2 then⟨true,wZ x⟩else if k=3∨k=4 then⟨true,F4 x⟩else K0
def r9(k:Int)(v:Vl):Vl:=if v.h=false then K0 else if k=1∨k=2 then v else if k=3∨k=4 then⟨true,F4 v.b⟩else K0
def N5(k:Int)(a b:Vl):Vl:=
 if a.h=false then b else if b.h=false then a else if k=3 then⟨true,O6 a.b b.b⟩else if k=4 then⟨true,V9 a.b b.b⟩else⟨true,(a.b+b.b)%18446744073709551616⟩
def J4(k:Int)(a b:Vl):Vl:=N5 k (r9 k a) (r9 k b)
theorem PX(x:Nat):((wZ x:Nat):Int)=IntKind.u64.wrap (gC x):=by
 unfold wZ;rw[IntKind.wrap_u64];omega
theorem XL:K0.ok:=by show 0<18446744073709551616;omega
theorem iZ(k:Int){v:Vl}(hv:v.ok):(r9 k v).ok:=by
 unfold r9
 split
 ·exact XL
 split
 ·exact hv
 split
 ·exact iH hv
 ·exact XL
theorem vL{a b:Nat}(ha:a<18446744073709551616)(hb:b<18446744073709551616):O6 a b<18446744073709551616:=by
 unfold O6
 split
 ·exact iH ha
 ·exact iH hb
theorem DQ{a b:Nat}(ha:a<18446744073709551616)(hb:b<18446744073709551616):V9 a b<18446744073709551616:=by
 unfold V9
 split
 ·exact iH ha
 ·exact iH hb
theorem YE(k:Int){a b:Vl}(ha:a.ok)(hb:b.ok):(N5 k a b).ok:=by
 unfold N5
 split
 ·exact hb
 split
 ·exact ha
 split
 ·exact vL ha hb
 split
 ·exact DQ ha hb
 ·exact Nat.mod_lt _ (by omega)
theorem SX(k:Int){a b:Vl}(ha:a.ok)(hb:b.ok):(J4 k a b).ok:=YE k (iZ k ha) (iZ k hb)
theorem dD(x:Nat):F4 (F4 x)=F4 x:=by
 unfold F4
 cases h:L4 x
 ·simp[h]
 ·rw[if_pos rfl,if_pos (by decide)]
theorem jS(a b:Nat):F4 (O6 a b)=O6 a b:=by
 unfold O6
 split<;>exact dD _
theorem nN(a b:Nat):F4 (V9 a b)=V9 a b:=by
 unfold V9
 split<;>exact dD _
theorem sC{k:Int}:s9 k=true↔k=1∨k=2∨k=3∨k=4:=by
 unfold s9;simp;omega
theorem lH{k:Int}(h:s9 k=false):k≠1∧k≠2∧k≠3∧k≠4:=by
 unfold s9 at h;simp at h;omega
end Go.Proofs.YtfhoilcbhmeofaaGreat
namespace Go.Proofs.YtfhoilcbhmeofaaGreat

open Ieee Go.RowKit

attribute [local go_sem] aB K8
theorem K6(x:Nat)(w:d9):
  Calls Tryz.prog 203 #[.float .f64 x] w fun e w'=>e= .returned (.int .u64 x)∧w'=w:=by
 go_in;go_wp2;go_ret;exact⟨rfl,rfl⟩
theorem eA(x:Nat)(w:d9):
  Calls Tryz.prog 174 #[.int .u64 x] w fun e w'=>e= .returned (.float .f64 x)∧w'=w:=by
 go_in;go_wp2;go_ret;exact⟨K4 (by simp),rfl⟩
def eB(x:Nat):Nat:=D6 x/4503599627370496
def fB(x:Nat):Nat:=x%4503599627370496
theorem Dz{x:Nat}(hx:x<18446744073709551616):bits .and .u64 ((x:Int)/4503599627370496) 2047=eB x:=by
 have h:=bits_and_u64_nat (x/4503599627370496) 2047 (by omega) (by omega);rw[show(2047:Nat)=2^11-1 from rfl,Nat.and_two_pow_sub_one_eq_mod]at h;have e:((x/4503599627370496:Nat):Int)=(x:Int)/4503599627370496:=by omega
 rw[e]at h;rw[show((2^11-1:Nat):Int)=2047 from rfl]at h;rw[h];unfold eB D6;omega
theorem Dv{x:Nat}(hx:x<18446744073709551616):bits .and .u64 (x:Int) 4503599627370495=fB x:=by
 have h:=bits_and_u64_nat x 4503599627370495 hx (by omega);rw[show(4503599627370495:Nat)=2^52-1 from rfl,Nat.and_two_pow_sub_one_eq_mod]at h;rw[show((2^52-1:Nat):Int)=4503599627370495 from rfl]at h;rw[h];rfl
theorem Fy(x:Nat):eB x≤2047:=by have:=lQ x;unfold eB;omega
theorem F8{x:Nat}(hx:x<18446744073709551616)(w:d9):
  Calls Tryz.prog 229 #[.float .f64 x] w fun e w'=>e= .returned (.tuple #[.int .i64 (eB x),.int .u64 (fB x)])∧w'=w:=by
 have c:=Dz hx;have b:=Dv hx;have a:=Fy x;go_in;go_wp2_with fail;refine(K6 x _).mono ?_;rintro e w' ⟨rfl,rfl⟩;go_wp2_with fail;go_ret2;exact⟨rfl,rfl⟩
theorem Hf{x:Nat}:D6 x=eB x*4503599627370496+fB x∧fB x<4503599627370496:=by
 unfold eB fB D6;omega
theorem D8{x:Nat}(hx:x<18446744073709551616)(w:d9):
  Calls Tryz.prog 230 #[.float .f64 x] w fun e w'=>e= .returned (.int .i64 (Y9 x))∧w'=w:=by
 obtain⟨a,b⟩:= @Hf x;have c:=Fy x
 have cl: ∀k:Int,((eB x=2047∧fB x≠0∧k=5)∨(eB x=2047∧fB x=0∧k=4)∨(eB x≠2047∧eB x≠0∧k=3)∨(eB x=0∧fB x≠0∧k=2)∨(eB x=0∧fB x=0∧k=1))→Y9 x=k:=by
  intro k f;unfold Y9 L4;simp only[decide_eq_true_eq]
  (repeat' split)<;>omega
 have CL:=b9 cl;clear cl a b c;by_cases h:eB x=2047
 ·by_cases d:fB x=0
  ·go_in;go_wp2_with fail;refine(F8 hx _).mono ?_;rintro e w' ⟨rfl,rfl⟩;go_wp2_with fail;go_ret;exact⟨G2 (CL.o _ (by omega)).symm,rfl⟩
  ·go_in;go_wp2_with fail;refine(F8 hx _).mono ?_;rintro e w' ⟨rfl,rfl⟩;go_wp2_with fail;go_ret;exact⟨G2 (CL.o _ (by omega)).symm,rfl⟩
 ·by_cases g:eB x=0
  ·by_cases d:fB x=0
   ·go_in;go_wp2_with fail;refine(F8 hx _).mono ?_;rintro e w' ⟨rfl,rfl⟩;go_wp2_with fail;go_ret;exact⟨G2 (CL.o _ (by omega)).symm,rfl⟩
   ·go_in;go_wp2_with fail;refine(F8 hx _).mono ?_;rintro e w' ⟨rfl,rfl⟩;go_wp2_with fail;go_ret;exact⟨G2 (CL.o _ (by omega)).symm,rfl⟩
  ·go_in;go_wp2_with fail;refine(F8 hx _).mono ?_;rintro e w' ⟨rfl,rfl⟩;go_wp2_with fail;go_ret;exact⟨G2 (CL.o _ (by omega)).symm,rfl⟩
theorem jD(x:Nat):Y9 x=5↔L4 x=true:=by
 unfold Y9
 cases L4 x
 ·simp only[Bool.false_eq_true,if_false,iff_false];(repeat' split)<;>omega
 ·simp
theorem dB{x:Nat}(h:L4 x=false): ¬Y9 x=5:=fun k=>by rw[(jD x).1 k]at h;cases h
theorem aE{x:Nat}(hx:x<18446744073709551616)(w:d9):
  Calls Tryz.prog 204 #[.float .f64 x] w fun e w'=>e= .returned (.float .f64 (F4 x))∧w'=w:=by
 cases h:L4 x
 ·have a:=dB h;go_in;go_wp2_with fail;refine(D8 hx _).mono ?_;rintro e w' ⟨rfl,rfl⟩;go_wp2_with fail;go_ret;exact⟨K4 (by unfold F4;rw[h];rfl),rfl⟩
 ·have a:=(jD x).2 h;go_in;go_wp2_with fail;refine(D8 hx _).mono ?_;rintro e w' ⟨rfl,rfl⟩;go_wp2_with fail;refine(eA 9221120237041090561 _).mono ?_;rintro e w' ⟨rfl,rfl⟩;go_wp2_with fail;go_ret;exact⟨K4 (by unfold F4;rw[h];rfl),rfl⟩
theorem X8{x:Nat}(hx:x<18446744073709551616)(w:d9):
  Calls Tryz.prog 239 #[.float .f64 x] w fun e w'=>e= .returned (.int .i64 (R9 x))∧w'=w:=by
 cases h:L4 x
 ·have b:=dB h
  cases s:J0 x
  ·have a:decide (9223372036854775808≤(x:Int))=false:=by have:=bW s;simp only[decide_eq_false_iff_not];omega
   go_in;go_wp2_with fail;refine(D8 hx _).mono ?_;rintro e w' ⟨rfl,rfl⟩;go_wp2_with fail;refine(K6 x _).mono ?_;rintro e w' ⟨rfl,rfl⟩;go_wp2_with fail;go_ret;exact⟨G2 (by have:=bW s;unfold R9 wrap64;rw[h,s];simp only[Bool.false_eq_true,if_false];omega),rfl⟩
  ·have a:9223372036854775808≤(x:Int):=by have:=cQ s;omega
   go_in;go_wp2_with fail;refine(D8 hx _).mono ?_;rintro e w' ⟨rfl,rfl⟩;go_wp2_with fail;refine(K6 x _).mono ?_;rintro e w' ⟨rfl,rfl⟩;go_wp2_with fail;go_ret;exact⟨G2 (by unfold R9;rw[h,s];simp),rfl⟩
 ·have b:=(jD x).2 h;go_in;go_wp2_with fail;refine(D8 hx _).mono ?_;rintro e w' ⟨rfl,rfl⟩;go_wp2_with fail;go_ret;exact⟨G2 (by unfold R9;rw[h];rfl),rfl⟩
theorem cM{a b:Nat}(ha:a<18446744073709551616)(hb:b<18446744073709551616)(w:d9):
  Calls Tryz.prog 231 #[.float .f64 a,.float .f64 b] w fun e w'=>e= .returned (.int .i64 (bV a b))∧w'=w:=by
 by_cases d:R9 a<R9 b
 ·go_in;go_wp2_with fail;refine(X8 ha _).mono ?_;rintro e w' ⟨rfl,rfl⟩;go_wp2_with fail;refine(X8 hb _).mono ?_;rintro e w' ⟨rfl,rfl⟩;go_wp2_with fail;go_ret;exact⟨G2 (by unfold bV;rw[if_pos d]),rfl⟩
 ·by_cases c:R9 b<R9 a
  ·go_in;go_wp2_with fail;refine(X8 ha _).mono ?_;rintro e w' ⟨rfl,rfl⟩;go_wp2_with fail;refine(X8 hb _).mono ?_;rintro e w' ⟨rfl,rfl⟩;go_wp2_with fail;go_ret;exact⟨G2 (by unfold bV;rw[if_neg (by omega),if_pos c]),rfl⟩
  ·go_in;go_wp2_with fail;refine(X8 ha _).mono ?_;rintro e w' ⟨rfl,rfl⟩;go_wp2_with fail;refine(X8 hb _).mono ?_;rintro e w' ⟨rfl,rfl⟩;go_wp2_with fail;go_ret;exact⟨G2 (by unfold bV;rw[if_neg (by omega),if_neg (by omega)]),rfl⟩
theorem BW{a b:Nat}(ha:a<18446744073709551616)(hb:b<18446744073709551616)(w:d9):
  Calls Tryz.prog 206 #[.float .f64 a,.float .f64 b] w fun e w'=>e= .returned (.float .f64 (O6 a b))∧w'=w:=by
 have c:= @DD a b;have HP:=b9 c;clear c;by_cases h:bV a b≤0
 ·go_in;go_wp2_with fail;refine(cM ha hb _).mono ?_;rintro e w' ⟨rfl,rfl⟩;go_wp2_with fail;refine(aE ha _).mono ?_;rintro e w' ⟨rfl,rfl⟩;go_wp2_with fail;go_ret;exact⟨K4 (by unfold O6;rw[if_pos (by have:=HP.o;omega)]),rfl⟩
 ·go_in;go_wp2_with fail;refine(cM ha hb _).mono ?_;rintro e w' ⟨rfl,rfl⟩;go_wp2_with fail;refine(aE hb _).mono ?_;rintro e w' ⟨rfl,rfl⟩;go_wp2_with fail;go_ret;exact⟨K4 (by unfold O6;rw[if_neg (by have:=HP.o;omega)]),rfl⟩
theorem JS{a b:Nat}(ha:a<18446744073709551616)(hb:b<18446744073709551616)(w:d9):
  Calls Tryz.prog 207 #[.float .f64 a,.float .f64 b] w fun e w'=>e= .returned (.float .f64 (V9 a b))∧w'=w:=by
 have c:= @DE a b;have HP:=b9 c;clear c;by_cases h:0≤bV a b
 ·go_in;go_wp2_with fail;refine(cM ha hb _).mono ?_;rintro e w' ⟨rfl,rfl⟩;go_wp2_with fail;refine(aE ha _).mono ?_;rintro e w' ⟨rfl,rfl⟩;go_wp2_with fail;go_ret;exact⟨K4 (by unfold V9;rw[if_pos (by have:=HP.o;omega)]),rfl⟩
 ·go_in;go_wp2_with fail;refine(cM ha hb _).mono ?_;rintro e w' ⟨rfl,rfl⟩;go_wp2_with fail;refine(aE hb _).mono ?_;rintro e w' ⟨rfl,rfl⟩;go_wp2_with fail;go_ret;exact⟨K4 (by unfold V9;rw[if_neg (by have:=HP.o;omega)]),rfl⟩
end Go.Proofs.YtfhoilcbhmeofaaGreat
namespace Go.Proofs.YtfhoilcbhmeofaaGreat

open Ieee

end Go.Proofs.YtfhoilcbhmeofaaGreat
namespace Go.Proofs.YtfhoilcbhmeofaaGreat

open Ieee Go.RowKit

end Go.Proofs.YtfhoilcbhmeofaaGreat
namespace Go.Proofs.YtfhoilcbhmeofaaGreat

open Ieee

end Go.Proofs.YtfhoilcbhmeofaaGreat
