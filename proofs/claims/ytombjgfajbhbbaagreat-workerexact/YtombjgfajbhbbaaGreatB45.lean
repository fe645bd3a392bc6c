/- awake. -/
import Derived.Test.YtombjgfajbhbbaaGreatB44
set_option maxRecDepth 100000
set_option maxHeartbeats 16000000
namespace Go.Proofs.YtombjgfajbhbbaaGreat
open Go.RowKit
section
open Ieee Go.RowKit

def keysO : Option Sc → List Nat | none => [] | some S => S.keys
def switchOI (o : Option Sc) (p : Int) : Int := match o with | none => 2 | some S => switchI S p
def switchO (o : Option Sc) (p : Int) (on : Bool) : Option Sc := match o with | none => none | some S => some (switchS S p on)
def prodOI (o : Option Sc) (p : Int) (r : Rcd) : Int := match o with | none => 2 | some S => (prodS S p r).1
def prodO (o : Option Sc) (p : Int) (r : Rcd) : Option Sc := match o with | none => none | some S => some (prodS S p r).2
def Pg (D : Nat → Prop) (w : World) (sv tv : Value) (o1 o2 : Option Sc) : Prop :=
 (∀ x, D x → x < w.heap.size) ∧ ((o1 = none ∧ o2 = none ∧ sv = .pointer none ∧ tv = .pointer none) ∨ ∃ S1 S2 Ds Dt, o1 = some S1 ∧ o2 = some S2 ∧ Src Ds w sv S1 ∧ Rs Dt w tv S2 ∧ (∀ x, Ds x → ¬ Dt x) ∧ (∀ x, Ds x → D x) ∧ (∀ x, Dt x → D x))
section

variable {D E : Nat → Prop} {w w' : World} {sv tv : Value} {o1 o2 : Option Sc}

theorem Pg.below (h : Pg D w sv tv o1 o2) (hb : Below w.heap.size w w') : Pg D w' sv tv o1 o2 := by
 obtain ⟨hl, h | ⟨S1, S2, Ds, Dt, e1, e2, h1, h2, h3, h4, h5⟩⟩ := h
 ·exact ⟨fun x hx => Nat.lt_of_lt_of_le (hl x hx) hb.size, .inl h⟩
 ·exact ⟨fun x hx => Nat.lt_of_lt_of_le (hl x hx) hb.size, .inr ⟨S1, S2, Ds, Dt, e1, e2, h1.below hb, h2.below hb, h3, h4, h5⟩⟩
theorem Pg.ch (h : Pg E w sv tv o1 o2) (hc : Ch D w w') (hd : ∀ x, E x → ¬ D x) : Pg E w' sv tv o1 o2 := by
 obtain ⟨hl, h | ⟨S1, S2, Ds, Dt, e1, e2, h1, h2, h3, h4, h5⟩⟩ := h
 ·exact ⟨fun x hx => Nat.lt_of_lt_of_le (hl x hx) hc.size, .inl h⟩
 ·exact ⟨fun x hx => Nat.lt_of_lt_of_le (hl x hx) hc.size, .inr ⟨S1, S2, Ds, Dt, e1, e2, h1.keep (fun x hx => hc.block x (h1.lt hx) (hd x (h4 x hx))) hc.size, h2.keep (fun x hx => hc.block x (h2.lt hx) (hd x (h5 x hx))) hc.size, h3, h4, h5⟩⟩
theorem zswitchP (h : Pg D w sv tv o1 o2) (p : Int) (on : Bool) : Calls Tryz.prog 14 #[sv, .int .i64 p, .bool on] w fun e w' => e = .returned (.int .i64 (switchOI o1 p)) ∧ ∃ D', Pg D' w' sv tv (switchO o1 p on) o2 ∧ Ch D w w' ∧ ∀ b, D' b → D b ∨ w.heap.size ≤ b := by
 obtain ⟨hl, ⟨e1, e2, rfl, rfl⟩ | ⟨S1, S2, Ds, Dt, e1, e2, h1, h2, h3, h4, h5⟩⟩ := h
 ·subst e1 e2;refine (switch_nil p on w).mono ?_;rintro e w1 ⟨rfl, hB⟩;have hB' : Below w.heap.size w w1 := by rw [hB]; exact below_same _
  exact ⟨rfl, D, ⟨fun x hx => Nat.lt_of_lt_of_le (hl x hx) hB'.size, .inl ⟨rfl, rfl, rfl, rfl⟩⟩, Ch.of_below hB', fun b hb => .inl hb⟩
 ·subst e1 e2;refine (switch_walk h1 p on).mono ?_;rintro e w1 ⟨rfl, hN, hC⟩;obtain ⟨Ds', hDs⟩ : ∃ Ds', Ds' = Ds := ⟨_, rfl⟩;rw [← hDs] at hN;have hD : ∀ b, Ds' b → Ds b ∨ w.heap.size ≤ b := fun b hb => .inl (by rw [← hDs]; exact hb);have hO : Rs Dt w1 tv S2 := h2.keep (fun x hx => hC.block x (h2.lt hx) (fun hd => h3 x hd hx)) hC.size;have hC2 : Ch D w w1 := ⟨hC.os, hC.tape, hC.output, hC.size, fun k hk hd => hC.block k hk (fun q => hd (h4 k q))⟩;refine ⟨rfl, fun x => Ds' x ∨ Dt x ∨ D x, ⟨?_, .inr ⟨_, S2, Ds', Dt, rfl, rfl, hN, hO, fun x hx ht => by rcases hD x hx with q | q; exact h3 x q ht; have := h2.lt ht; omega, fun x hx => .inl hx, fun x hx => .inr (.inl hx)⟩⟩, hC2, ?_⟩
  ·rintro x (hx | hx | hx)
   ·exact hN.lt hx
   ·exact hO.lt hx
   ·exact Nat.lt_of_lt_of_le (hl x hx) hC.size
  ·rintro x (hx | hx | hx)
   ·rcases hD x hx with q | q
    ·exact .inl (h4 x q)
    ·exact .inr q
   ·exact .inl (h5 x hx)
   ·exact .inl hx
theorem zprodP (h : Pg D w sv tv o1 o2) (p : Int) {r : Rcd} (hr : r.ok) : Calls Tryz.prog 12 #[sv, .int .i64 p, .agg #[.int .u64 r.k, .float .f64 r.x]] w fun e w' => e = .returned (.int .i64 (prodOI o1 p r)) ∧ ∃ D', Pg D' w' sv tv (prodO o1 p r) o2 ∧ Ch D w w' ∧ ∀ b, D' b → D b ∨ w.heap.size ≤ b := by
 obtain ⟨hl, ⟨e1, e2, rfl, rfl⟩ | ⟨S1, S2, Ds, Dt, e1, e2, h1, h2, h3, h4, h5⟩⟩ := h
 ·subst e1 e2;refine (produce_nil p r w).mono ?_;rintro e w1 ⟨rfl, hB⟩;have hB' : Below w.heap.size w w1 := hB;exact ⟨rfl, D, ⟨fun x hx => Nat.lt_of_lt_of_le (hl x hx) hB'.size, .inl ⟨rfl, rfl, rfl, rfl⟩⟩, Ch.of_below hB', fun b hb => .inl hb⟩
 ·subst e1 e2;refine (produce_walk h1 p hr).mono ?_;rintro e w1 ⟨rfl, ⟨Ds', hN, hC, hD⟩, _⟩;have hO : Rs Dt w1 tv S2 := h2.keep (fun x hx => hC.block x (h2.lt hx) (fun hd => h3 x hd hx)) hC.size;have hC2 : Ch D w w1 := ⟨hC.os, hC.tape, hC.output, hC.size, fun k hk hd => hC.block k hk (fun q => hd (h4 k q))⟩;refine ⟨rfl, fun x => Ds' x ∨ Dt x ∨ D x, ⟨?_, .inr ⟨_, S2, Ds', Dt, rfl, rfl, hN, hO, fun x hx ht => by rcases hD x hx with q | q; exact h3 x q ht; have := h2.lt ht; omega, fun x hx => .inl hx, fun x hx => .inr (.inl hx)⟩⟩, hC2, ?_⟩
  ·rintro x (hx | hx | hx)
   ·exact hN.lt hx
   ·exact hO.lt hx
   ·exact Nat.lt_of_lt_of_le (hl x hx) hC.size
  ·rintro x (hx | hx | hx)
   ·rcases hD x hx with q | q
    ·exact .inl (h4 x q)
    ·exact .inr q
   ·exact .inl (h5 x hx)
   ·exact .inl hx
theorem zswitchR (h : Pg D w sv tv o1 o2) (p : Int) (on : Bool) : Calls Tryz.prog 15 #[tv, .int .i64 p, .bool on] w fun e w' => e = .returned (.int .i64 (switchOI o2 p)) ∧ ∃ D', Pg D' w' sv tv o1 (switchO o2 p on) ∧ Ch D w w' ∧ ∀ b, D' b → D b ∨ w.heap.size ≤ b := by
 obtain ⟨hl, ⟨e1, e2, rfl, rfl⟩ | ⟨S1, S2, Ds, Dt, e1, e2, h1, h2, h3, h4, h5⟩⟩ := h
 ·subst e1 e2;refine (rswitch_nil p on w).mono ?_;rintro e w1 ⟨rfl, hB⟩;have hB' : Below w.heap.size w w1 := by rw [hB]; exact below_same _
  exact ⟨rfl, D, ⟨fun x hx => Nat.lt_of_lt_of_le (hl x hx) hB'.size, .inl ⟨rfl, rfl, rfl, rfl⟩⟩, Ch.of_below hB', fun b hb => .inl hb⟩
 ·subst e1 e2;refine (rswitch_walk h2 p on).mono ?_;rintro e w1 ⟨rfl, hN, hC⟩;obtain ⟨Ds', hDs⟩ : ∃ Ds', Ds' = Dt := ⟨_, rfl⟩;rw [← hDs] at hN;have hD : ∀ b, Ds' b → Dt b ∨ w.heap.size ≤ b := fun b hb => .inl (by rw [← hDs]; exact hb);have hO : Src Ds w1 sv S1 := h1.keep (fun x hx => hC.block x (h1.lt hx) (fun hd => h3 x hx hd)) hC.size;have hC2 : Ch D w w1 := ⟨hC.os, hC.tape, hC.output, hC.size, fun k hk hd => hC.block k hk (fun q => hd (h5 k q))⟩;refine ⟨rfl, fun x => Ds' x ∨ Ds x ∨ D x, ⟨?_, .inr ⟨S1, _, Ds, Ds', rfl, rfl, hO, hN, fun x hx ht => by rcases hD x ht with q | q; exact h3 x hx q; have := h1.lt hx; omega, fun x hx => .inr (.inl hx), fun x hx => .inl hx⟩⟩, hC2, ?_⟩
  ·rintro x (hx | hx | hx)
   ·exact hN.lt hx
   ·exact hO.lt hx
   ·exact Nat.lt_of_lt_of_le (hl x hx) hC.size
  ·rintro x (hx | hx | hx)
   ·rcases hD x hx with q | q
    ·exact .inl (h5 x q)
    ·exact .inr q
   ·exact .inl (h4 x hx)
   ·exact .inl hx
theorem zprodR (h : Pg D w sv tv o1 o2) (p : Int) {r : Rcd} (hr : r.ok) : Calls Tryz.prog 13 #[tv, .int .i64 p, .agg #[.int .u64 r.k, .float .f64 r.x]] w fun e w' => e = .returned (.int .i64 (prodOI o2 p r)) ∧ ∃ D', Pg D' w' sv tv o1 (prodO o2 p r) ∧ Ch D w w' ∧ ∀ b, D' b → D b ∨ w.heap.size ≤ b := by
 obtain ⟨hl, ⟨e1, e2, rfl, rfl⟩ | ⟨S1, S2, Ds, Dt, e1, e2, h1, h2, h3, h4, h5⟩⟩ := h
 ·subst e1 e2;refine (rproduce_nil p r w).mono ?_;rintro e w1 ⟨rfl, hB⟩;have hB' : Below w.heap.size w w1 := hB;exact ⟨rfl, D, ⟨fun x hx => Nat.lt_of_lt_of_le (hl x hx) hB'.size, .inl ⟨rfl, rfl, rfl, rfl⟩⟩, Ch.of_below hB', fun b hb => .inl hb⟩
 ·subst e1 e2;refine (rproduce_walk h2 p hr).mono ?_;rintro e w1 ⟨rfl, ⟨Ds', hN, hC, hD⟩⟩;have hO : Src Ds w1 sv S1 := h1.keep (fun x hx => hC.block x (h1.lt hx) (fun hd => h3 x hx hd)) hC.size;have hC2 : Ch D w w1 := ⟨hC.os, hC.tape, hC.output, hC.size, fun k hk hd => hC.block k hk (fun q => hd (h5 k q))⟩;refine ⟨rfl, fun x => Ds' x ∨ Ds x ∨ D x, ⟨?_, .inr ⟨S1, _, Ds, Ds', rfl, rfl, hO, hN, fun x hx ht => by rcases hD x ht with q | q; exact h3 x hx q; have := h1.lt hx; omega, fun x hx => .inr (.inl hx), fun x hx => .inl hx⟩⟩, hC2, ?_⟩
  ·rintro x (hx | hx | hx)
   ·exact hN.lt hx
   ·exact hO.lt hx
   ·exact Nat.lt_of_lt_of_le (hl x hx) hC.size
  ·rintro x (hx | hx | hx)
   ·rcases hD x hx with q | q
    ·exact .inl (h5 x q)
    ·exact .inr q
   ·exact .inl (h4 x hx)
   ·exact .inl hx
end
end
theorem ov_nil (w : World) : Ov w (.slice none 0 0) [] := ⟨⟨none, 0, rfl, Nat.le_refl _, by simp [maxLen], fun _ => rfl, fun i hi => by simp at hi⟩, by simp⟩
theorem qv_nil (w : World) : Qv w (.slice none 0 0) [] := ⟨⟨none, 0, rfl, Nat.le_refl _, by simp [maxLen], fun _ => rfl, fun i hi => by simp at hi⟩, by simp⟩
structure MrK (K : Nat → Prop) (w : World) (lo : Nat) (v : Value) (M : List Tq) : Prop where
 r : Mr w lo v M
 kv : ∀ x, v.ownBlock = some x → K x
 ke : ∀ t ∈ M, ∀ x, t.e.ownBlock = some x ∨ t.q.ownBlock = some x ∨ t.p.ownBlock = some x → K x
theorem MrK.nk {w0 : Nat} {K : Nat → Prop} {w w' : World} {lo : Nat} {v : Value} {M : List Tq} (h : MrK K w lo v M) (hc : Ch (NK w0 K) w w') : MrK K w' lo v M :=
 ⟨⟨own_nk h.r.own hc h.kv, fun t ht => ⟨own_nk (h.r.ent t ht).e hc (fun x hx => h.ke t ht x (.inl hx)), own_nk (h.r.ent t ht).q hc (fun x hx => h.ke t ht x (.inr (.inl hx))), own_nk (h.r.ent t ht).p hc (fun x hx => h.ke t ht x (.inr (.inr hx))), (h.r.ent t ht).ok⟩⟩, h.kv, h.ke⟩
theorem MrK.below {K : Nat → Prop} {w w' : World} {lo : Nat} {v : Value} {M : List Tq} (h : MrK K w lo v M) (hb : Below w.heap.size w w') : MrK K w' lo v M := ⟨h.r.below hb, h.kv, h.ke⟩
theorem MrK.mono {K K' : Nat → Prop} {w : World} {lo : Nat} {v : Value} {M : List Tq} (h : MrK K w lo v M) (hk : ∀ x, K x → K' x) : MrK K' w lo v M := ⟨h.r, fun x hx => hk x (h.kv x hx), fun t ht x hx => hk x (h.ke t ht x hx)⟩
theorem mrk_of {K : Nat → Prop} {w : World} {lo : Nat} {v : Value} {M : List Tq} (h : Mr w lo v M) (hk : ∀ x, lo ≤ x → x < w.heap.size → K x) : MrK K w lo v M :=
 ⟨h, fun x hx => hk x (h.own.lt x hx).1 (h.own.lt x hx).2, fun t ht x hx => by
  rcases hx with q | q | q
  ·exact hk x ((h.ent t ht).e.lt x q).1 ((h.ent t ht).e.lt x q).2
  ·exact hk x ((h.ent t ht).q.lt x q).1 ((h.ent t ht).q.lt x q).2
  ·exact hk x ((h.ent t ht).p.lt x q).1 ((h.ent t ht).p.lt x q).2⟩
theorem own_one (w : World) (e : TypeId) (u : Value) : (w.alloc (Obj.cells #[u] e)).ownsRow w.heap.size e 1 (.slice (some ⟨w.heap.size, 0, none⟩) 1 1) 1 [u] :=
 ⟨rfl, .inr ⟨_, 1, _, rfl, Nat.le_refl _, heap_alloc_new w _, Nat.le_refl _, by simp [maxLen], rfl, rfl⟩⟩
theorem own_pair (w : World) (q : Pr) : (w.alloc (Obj.cells #[.int .u64 q.k, .bool q.v.h, .int .u64 q.v.b] 66)).ownsRow w.heap.size 66 3 (.slice (some ⟨w.heap.size, 0, none⟩) 1 1) 1 (flatQ [q]) :=
 ⟨rfl, .inr ⟨_, 1, _, rfl, Nat.le_refl _, heap_alloc_new w _, Nat.le_refl _, by simp [maxLen], rfl, rfl⟩⟩
theorem own_msg2 (w : World) (x y : Tq) : (w.alloc (Obj.cells #[.int .i64 x.m.K, .int .i64 x.m.F, .int .i64 x.m.T, .int .i64 x.m.B, .int .i64 x.m.A, .int .i64 x.m.C, x.e, x.q, x.p, .int .i64 y.m.K, .int .i64 y.m.F, .int .i64 y.m.T, .int .i64 y.m.B, .int .i64 y.m.A, .int .i64 y.m.C, y.e, y.q, y.p] 48)).ownsRow w.heap.size 48 9 (.slice (some ⟨w.heap.size, 0, none⟩) 2 2) 2 (flatT [x, y]) :=
 ⟨rfl, .inr ⟨_, 2, _, rfl, Nat.le_refl _, heap_alloc_new w _, Nat.le_refl _, by simp [maxLen], rfl, rfl⟩⟩
theorem own_held1 (w : World) (x : Hq) : (w.alloc (Obj.cells #[.int .i64 x.h.n, .int .i64 x.h.a, x.ev, .bool x.h.g, .int .i64 (x.h.c : Nat)] 68)).ownsRow w.heap.size 68 5 (.slice (some ⟨w.heap.size, 0, none⟩) 1 1) 1 (flatH [x]) :=
 ⟨rfl, .inr ⟨_, 1, _, rfl, Nat.le_refl _, heap_alloc_new w _, Nat.le_refl _, by simp [maxLen], rfl, rfl⟩⟩
theorem small_ok {K F T B A C : Int} {E : List Int} {Q : List Nat} {P : List Pr} (h : (-1000 ≤ K ∧ K ≤ 1000) ∧ (-1000 ≤ F ∧ F ≤ 1000) ∧ (-1000 ≤ T ∧ T ≤ 1000) ∧ (-1000 ≤ B ∧ B ≤ 1000) ∧ (-1000 ≤ A ∧ A ≤ 1000) ∧ (-1000 ≤ C ∧ C ≤ 1000)) (hE : ∀ x ∈ E, in64 x) (hQ : keysOk Q) (hP : okT P) : (⟨K, F, T, B, A, C, E, Q, P⟩ : Ms).ok :=
 ⟨i64_s h.1.1 h.1.2, i64_s h.2.1.1 h.2.1.2, i64_s h.2.2.1.1 h.2.2.1.2, i64_s h.2.2.2.1.1 h.2.2.2.1.2, i64_s h.2.2.2.2.1.1 h.2.2.2.2.1.2, i64_s h.2.2.2.2.2.1 h.2.2.2.2.2.2, hE, hQ, hP⟩
theorem e1_ok {x : Int} (h0 : -1000 ≤ x) (h1 : x ≤ 1000) : ∀ y ∈ [x], in64 y := fun y hy => by rw [List.mem_singleton] at hy; subst hy; exact i64_s h0 h1
theorem e0_ok : ∀ y ∈ ([] : List Int), in64 y := fun y hy => by simp at hy
theorem q0_ok : keysOk [] := fun y hy => by simp at hy
theorem p0_ok : okT [] := fun y hy => by simp at hy
def smP : Pn := ⟨1, 2, 1, 1, 2, 1, 8, []⟩
def rA : Rcd := ⟨1, 4617315517961601024⟩
def rB : Rcd := ⟨2, 4617315517961601024⟩
def rC : Rcd := ⟨1, 4618441417868443648⟩
def sm3 : Sc := (prodS (prodS (prodS (newS 1 []) 0 rA).2 0 rB).2 0 rC).2
def smT : List Pr := [⟨1, ⟨true, 1⟩⟩, ⟨2, ⟨true, 1⟩⟩]
def mA : Ms := ⟨1, 0, 1, 1, 4, 0, [0], [], []⟩
def mB : Ms := ⟨3, 0, 1, 1, 4, 0, [2], [], []⟩
def mC : Ms := ⟨5, 3, 1, 1, 4, 0, [], [], []⟩
theorem sm_1 : takA smP 1 sm3 mA [] = ([⟨2, 1, 0, 1, 4, 0, [2], [], []⟩], [⟨1, 4, [2], smT, [false, false], false⟩]) := by kernel_rfl
theorem sm_2 : takA smP 1 sm3 mB [⟨1, 4, [2], smT, [false, false], false⟩] = ([⟨4, 1, 2, 1, 4, 0, [], [2], []⟩, ⟨4, 1, 3, 1, 4, 0, [], [1], []⟩], [⟨1, 4, [2], smT, [false, false], true⟩]) := by kernel_rfl
theorem sm_3 : takA smP 1 sm3 mC [⟨1, 4, [2], smT, [false, false], true⟩] = ([⟨6, 1, 3, 1, 4, 0, [], [], [⟨1, ⟨true, 1⟩⟩]⟩], [⟨1, 4, [2], smT, [false, false], true⟩]) := by kernel_rfl
theorem sm_is : smP.is = true := by kernel_rfl
theorem sm_k : smP.kind 1 = 2 := by kernel_rfl
theorem sm_c : takC 1 mA = 0 ∧ takC 1 mB = 0 ∧ takC 1 mC = 0 := ⟨by kernel_rfl, by kernel_rfl, by kernel_rfl⟩
theorem mA_ok : mA.ok := small_ok (by omega) (e1_ok (by omega) (by omega)) q0_ok p0_ok
theorem mB_ok : mB.ok := small_ok (by omega) (e1_ok (by omega) (by omega)) q0_ok p0_ok
theorem mC_ok : mC.ok := small_ok (by omega) e0_ok q0_ok p0_ok
theorem rA_ok : rA.ok ∧ rB.ok ∧ rC.ok := by refine ⟨⟨?_, ?_⟩, ⟨?_, ?_⟩, ⟨?_, ?_⟩⟩ <;> decide
theorem len_h {L : List At} {H : List Hh} (h : L.map (·.h) = H) : L.length = H.length := by rw [← h, List.length_map]
theorem k1_ok {k : Nat} (h : k < 1000) : keysOk [k] := fun y hy => by rw [List.mem_singleton] at hy; subst hy; omega
theorem pr1_ok : okT [⟨1, ⟨true, 1⟩⟩] := fun y hy => by rw [List.mem_singleton] at hy; subst hy; exact ⟨by decide, show (1 : Nat) < 18446744073709551616 by decide⟩
theorem hq_of {M : List Tq} {r : List Ms} (h : M.map (·.m) = r) (hr : ∀ y ∈ r, y.Q.length ≤ 1048576) : ∀ x ∈ M, x.m.Q.length ≤ 1048576 := fun x hx => hr x.m (by rw [← h]; exact List.mem_map.2 ⟨x, hx, rfl⟩)
theorem lit_e (w : World) {K F T B A : Int} {a : Int} (hok : (⟨K, F, T, B, A, 0, [a], [], []⟩ : Ms).ok) : Mr ((w.alloc (Obj.cells #[.int .i64 a] 3)).alloc (Obj.cells #[.int .i64 K, .int .i64 F, .int .i64 T, .int .i64 B, .int .i64 A, .int .i64 0, .slice (some ⟨w.heap.size, 0, none⟩) 1 1, .slice none 0 0, .slice none 0 0] 48)) w.heap.size (.slice (some ⟨w.heap.size + 1, 0, none⟩) 1 1) [⟨⟨K, F, T, B, A, 0, [a], [], []⟩, .slice (some ⟨w.heap.size, 0, none⟩) 1 1, .slice none 0 0, .slice none 0 0⟩] := by
 have h := mr_one (w := w.alloc (Obj.cells #[.int .i64 a] 3)) (lo := w.heap.size) (x := ⟨⟨K, F, T, B, A, 0, [a], [], []⟩, .slice (some ⟨w.heap.size, 0, none⟩) 1 1, .slice none 0 0, .slice none 0 0⟩) ⟨own_one w 3 (.int .i64 a), World.ownsRow_nil _ _ _ _, World.ownsRow_nil _ _ _ _, hok⟩ (by rw [size_allocC]; omega);rw [size_allocC] at h;exact h
theorem lit_p (w : World) {K F T B A : Int} {q : Pr} (hok : (⟨K, F, T, B, A, 0, [], [], [q]⟩ : Ms).ok) : Mr ((w.alloc (Obj.cells #[.int .u64 q.k, .bool q.v.h, .int .u64 q.v.b] 66)).alloc (Obj.cells #[.int .i64 K, .int .i64 F, .int .i64 T, .int .i64 B, .int .i64 A, .int .i64 0, .slice none 0 0, .slice none 0 0, .slice (some ⟨w.heap.size, 0, none⟩) 1 1] 48)) w.heap.size (.slice (some ⟨w.heap.size + 1, 0, none⟩) 1 1) [⟨⟨K, F, T, B, A, 0, [], [], [q]⟩, .slice none 0 0, .slice none 0 0, .slice (some ⟨w.heap.size, 0, none⟩) 1 1⟩] := by
 have h := mr_one (w := w.alloc (Obj.cells #[.int .u64 q.k, .bool q.v.h, .int .u64 q.v.b] 66)) (lo := w.heap.size) (x := ⟨⟨K, F, T, B, A, 0, [], [], [q]⟩, .slice none 0 0, .slice none 0 0, .slice (some ⟨w.heap.size, 0, none⟩) 1 1⟩) ⟨World.ownsRow_nil _ _ _ _, World.ownsRow_nil _ _ _ _, own_pair w q, hok⟩ (by rw [size_allocC]; omega);rw [size_allocC] at h;exact h
theorem lit_q (w : World) {K F T T' B A : Int} {a c : Nat} (hok : (⟨K, F, T, B, A, 0, [], [a], []⟩ : Ms).ok) (hok' : (⟨K, F, T', B, A, 0, [], [c], []⟩ : Ms).ok) : Mr (((w.alloc (Obj.cells #[.int .u64 (a : Int)] 40)).alloc (Obj.cells #[.int .u64 (c : Int)] 40)).alloc (Obj.cells #[.int .i64 K, .int .i64 F, .int .i64 T, .int .i64 B, .int .i64 A, .int .i64 0, .slice none 0 0, .slice (some ⟨w.heap.size, 0, none⟩) 1 1, .slice none 0 0, .int .i64 K, .int .i64 F, .int .i64 T', .int .i64 B, .int .i64 A, .int .i64 0, .slice none 0 0, .slice (some ⟨w.heap.size + 1, 0, none⟩) 1 1, .slice none 0 0] 48)) w.heap.size (.slice (some ⟨w.heap.size + 2, 0, none⟩) 2 2) [⟨⟨K, F, T, B, A, 0, [], [a], []⟩, .slice none 0 0, .slice (some ⟨w.heap.size, 0, none⟩) 1 1, .slice none 0 0⟩, ⟨⟨K, F, T', B, A, 0, [], [c], []⟩, .slice none 0 0, .slice (some ⟨w.heap.size + 1, 0, none⟩) 1 1, .slice none 0 0⟩] := by
 have s1 : (w.alloc (Obj.cells #[.int .u64 (a : Int)] 40)).heap.size = w.heap.size + 1 := size_allocC _ _;have s2 : ((w.alloc (Obj.cells #[.int .u64 (a : Int)] 40)).alloc (Obj.cells #[.int .u64 (c : Int)] 40)).heap.size = w.heap.size + 2 := by rw [size_allocC, s1]
 have h1 := own_one w 40 (.int .u64 (a : Int));have h2 := own_one (w.alloc (Obj.cells #[.int .u64 (a : Int)] 40)) 40 (.int .u64 (c : Int));rw [s1] at h2;have hr := own_msg2 ((w.alloc (Obj.cells #[.int .u64 (a : Int)] 40)).alloc (Obj.cells #[.int .u64 (c : Int)] 40)) ⟨⟨K, F, T, B, A, 0, [], [a], []⟩, .slice none 0 0, .slice (some ⟨w.heap.size, 0, none⟩) 1 1, .slice none 0 0⟩ ⟨⟨K, F, T', B, A, 0, [], [c], []⟩, .slice none 0 0, .slice (some ⟨w.heap.size + 1, 0, none⟩) 1 1, .slice none 0 0⟩;rw [s2] at hr;refine ⟨own_baseC hr (by omega), fun t ht => ?_⟩;rcases List.mem_cons.1 ht with rfl | ht
 ·exact ⟨World.ownsRow_nil _ _ _ _, own_belowC (own_belowC h1 (below_alloc _ _)) (below_alloc _ _), World.ownsRow_nil _ _ _ _, hok⟩
 ·rw [List.mem_singleton] at ht; subst ht;exact ⟨World.ownsRow_nil _ _ _ _, own_baseC (own_belowC h2 (below_alloc _ _)) (by omega), World.ownsRow_nil _ _ _ _, hok'⟩
theorem lit_h (w : World) {n a e : Int} {g : Bool} {c : Nat} (he : in64 e) : Hr ((w.alloc (Obj.cells #[.int .i64 e] 3)).alloc (Obj.cells #[.int .i64 n, .int .i64 a, .slice (some ⟨w.heap.size, 0, none⟩) 1 1, .bool g, .int .i64 (c : Int)] 68)) w.heap.size (.slice (some ⟨w.heap.size + 1, 0, none⟩) 1 1) [⟨⟨n, a, [e], g, c⟩, .slice (some ⟨w.heap.size, 0, none⟩) 1 1⟩] := by
 have h := own_held1 (w.alloc (Obj.cells #[.int .i64 e] 3)) ⟨⟨n, a, [e], g, c⟩, .slice (some ⟨w.heap.size, 0, none⟩) 1 1⟩;rw [size_allocC] at h;refine ⟨own_baseC h (by omega), fun t ht => ?_⟩;rw [List.mem_singleton] at ht; subst ht;exact ⟨own_belowC (own_one w 3 (.int .i64 e)) (below_alloc _ _), fun y hy => by rw [List.mem_singleton] at hy; subst hy; exact he⟩
theorem small_walk (w : World) : Calls Tryz.prog 19 #[] w fun e w' => e = .returned (.agg #[.int .i64 1, .int .i64 2, .int .i64 1, .slice none 0 0, .int .i64 1, .int .i64 2, .int .i64 1, .int .i64 8]) ∧ Below w.heap.size w w' := by
 have HX : Hid (Bx _ w.heap.size smP (.slice none 0 0)) := box_new w smP (.slice none 0 0);have HB : Hid _ := below_alloc w (Obj.cells #[.int .i64 1, .int .i64 2, .int .i64 1, .slice none 0 0, .int .i64 1, .int .i64 2, .int .i64 1, .int .i64 8] 24);go_in;go_wp2_with fail;have HX1 : Hid (Bx (w.alloc (Obj.cells #[.int .i64 1, .int .i64 2, .int .i64 1, .slice none 0 0, .int .i64 1, .int .i64 2, .int .i64 1, .int .i64 8] 24)) w.heap.size smP (.slice none 0 0)) := HX.out;clear HX;generalize w.alloc (Obj.cells #[.int .i64 1, .int .i64 2, .int .i64 1, .slice none 0 0, .int .i64 1, .int .i64 2, .int .i64 1, .int .i64 8] 24) = w1 at HX1 HB ⊢;have c0 := HX1.out.c0;have c1 := HX1.out.c1;have c2 := HX1.out.c2;have c3 := HX1.out.c3;have c4 := HX1.out.c4;have c5 := HX1.out.c5;have c6 := HX1.out.c6;have c7 := HX1.out.c7;simp only [smP] at c0 c1 c2 c3 c4 c5 c6 c7;refine bodyPost_ret (v := .agg #[.int .i64 1, .int .i64 2, .int .i64 1, .slice none 0 0, .int .i64 1, .int .i64 2, .int .i64 1, .int .i64 8]) (by simp [results, Tryz.results19, go_sem, c0, c1, c2, c3, c4, c5, c6, c7]) rfl ?_;exact ⟨rfl, HB.out⟩
theorem awake_walk (w : World) : Calls Tryz.prog 4 #[] w fun e w' => e = .returned (.bool true) ∧ Below w.heap.size w w' := by
 go_in;go_wp2_with fail;refine (show Calls Tryz.prog 7 #[.int .i64 1, .slice none 0 0] w _ from new_ok (n := 1) (l := []) (Nat.le_refl _) (by omega) (ov_nil w) rfl).mono ?_;rintro e w1 ⟨v, D, rfl, hs, hB1, hd⟩;obtain ⟨sb, gp, gm, lv, rv, rfl, hsm, hsk⟩ := id hs;clear hsm hsk;have HS := hidH hs;have HD := hidH hd;have HB1 := hidH hB1;clear hs hd hB1;go_wp2_with fail;refine (small_walk w1).mono ?_;rintro e w2 ⟨rfl, hB2⟩;have HB2 := hidH (below_trans HB1.out hB2);have HS2 := hidH (HS.out.below hB2);clear hB2 HS HB1;go_wp2_with fail;refine (show Calls Tryz.prog 5 #[.agg #[.int .i64 1, .int .i64 2, .int .i64 1, .slice none 0 0, .int .i64 1, .int .i64 2, .int .i64 1, .int .i64 8], .int .i64 1] w2 _ from wnew_ok (p := smP) (oa := none) (oc := 0) (ov_nil w2) sm_is sm_k).mono ?_;rintro e w3 ⟨P, b, ov, rfl, hn⟩;have HP0 : Hid (Pw w.heap.size (fun _ => False) w3 sb (newS 1 []) P b ov smP 1 []) := ⟨⟨D, HS2.out.below hn.2.2, fun x hx => ⟨HD.out x hx, fun e => by have h1 := hn.2.1 x e; have h2 := HS2.out.lt hx; omega, fun e => e⟩⟩, hn.1, fun x hx => ⟨Nat.le_trans HB2.out.size (hn.2.1 x hx), fun e => e⟩, fun x hx => hx.elim⟩;have HW0 := hidH (below_trans HB2.out hn.2.2);clear hn HS2 HB2 HD;go_wp2_with fail;refine (show Calls Tryz.prog 12 #[.pointer (some ⟨sb, 0, none⟩), .int .i64 0, .agg #[.int .u64 1, .float .f64 4617315517961601024]] w3 _ from pw_produce HP0.out HW0.out.size 0 (r := rA) rA_ok.1).mono ?_;rintro e w4 ⟨rfl, hp, hc⟩;have HP1 := hidH hp;have HW1 : Hid (Below w.heap.size w w4) := HW0.out.trans (nk_below hc HW0.out.size);clear hp hc HP0 HW0;go_wp2_with fail;refine (show Calls Tryz.prog 12 #[.pointer (some ⟨sb, 0, none⟩), .int .i64 0, .agg #[.int .u64 2, .float .f64 4617315517961601024]] w4 _ from pw_produce HP1.out HW1.out.size 0 (r := rB) rA_ok.2.1).mono ?_;rintro e w5 ⟨rfl, hp, hc⟩;have HP2 := hidH hp;have HW2 : Hid (Below w.heap.size w w5) := HW1.out.trans (nk_below hc HW1.out.size);clear hp hc HP1 HW1;go_wp2_with fail;refine (show Calls Tryz.prog 12 #[.pointer (some ⟨sb, 0, none⟩), .int .i64 0, .agg #[.int .u64 1, .float .f64 4618441417868443648]] w5 _ from pw_produce HP2.out HW2.out.size 0 (r := rC) rA_ok.2.2).mono ?_;rintro e w6 ⟨rfl, hp, hc⟩;have HP3 := hidH hp;have HW3 : Hid (Below w.heap.size w w6) := HW2.out.trans (nk_below hc HW2.out.size);clear hp hc HP2 HW2;have HP : Hid (Pw w.heap.size (fun _ => False) w6 sb sm3 P b ov smP 1 []) := HP3.out;have HW : Hid (Below w.heap.size w w6) := HW3.out;clear HP3 HW3;have HLH : Hid (([] : List At).map (·.h) = []) := rfl;have HLN : Hid (([] : List At).length ≤ 4096) := Nat.zero_le _;go_wp2_with fail;refine (show Calls Tryz.prog 9 #[.pointer (some ⟨P, 0, none⟩), .pointer (some ⟨sb, 0, none⟩), .agg #[.int .i64 1, .int .i64 0, .int .i64 1, .int .i64 1, .int .i64 4, .int .i64 0, .slice (some ⟨w6.heap.size, 0, none⟩) 1 1, .slice none 0 0, .slice none 0 0]] (w6.alloc (Obj.cells #[.int .i64 0] 3)) _ from pw_take (m := mA) (HP.out.below (below_alloc w6 (Obj.cells #[.int .i64 0] 3))) (Nat.le_trans HW.out.size (Below.size (below_alloc w6 (Obj.cells #[.int .i64 0] 3)))) ⟨sv_one .i64 _ _ _, Sv.nil _ _, qv_nil _⟩ mA_ok (by have h := HLN.out; omega)).mono ?_;rintro e w7 ⟨v1, rfl, K1, M1, lo1, L1, hk1, hk2, hM, e1, e2, hlo, hp, hc⟩;rw [HLH.out, sm_1] at e1 e2;obtain ⟨a1, c1, rfl⟩ := own_formN hM.own;have HM1 : Hid (MrK K1 w7 lo1 (.slice a1 M1.length c1) M1) := mrk_of hM hk2;have HE1 : Hid _ := e1;have HWx : Hid (Below w.heap.size w w7) := (below_trans HW.out (below_alloc w6 (Obj.cells #[.int .i64 0] 3))).trans (nk_below hc (Nat.le_trans HW.out.size (Below.size (below_alloc w6 (Obj.cells #[.int .i64 0] 3)))));clear HW;have HW : Hid (Below w.heap.size w w7) := HWx.out;clear HP HWx HLH HLN;have HP : Hid _ := hp;have HLH : Hid _ := e2;have HLN : Hid (L1.length ≤ 4096) := by show _ ≤ _; rw [len_h e2]; decide
 have hcd1 : takC 1 mA = 0 := sm_c.1;rw [hcd1];clear hk1 hk2 hM e1 e2 hlo hp hc hcd1;go_wp2_with fail;refine (show Calls Tryz.prog 9 #[.pointer (some ⟨P, 0, none⟩), .pointer (some ⟨sb, 0, none⟩), .agg #[.int .i64 3, .int .i64 0, .int .i64 1, .int .i64 1, .int .i64 4, .int .i64 0, .slice (some ⟨w7.heap.size, 0, none⟩) 1 1, .slice none 0 0, .slice none 0 0]] (w7.alloc (Obj.cells #[.int .i64 2] 3)) _ from pw_take (m := mB) (HP.out.below (below_alloc w7 (Obj.cells #[.int .i64 2] 3))) (Nat.le_trans HW.out.size (Below.size (below_alloc w7 (Obj.cells #[.int .i64 2] 3)))) ⟨sv_one .i64 _ _ _, Sv.nil _ _, qv_nil _⟩ mB_ok (by have h := HLN.out; omega)).mono ?_;rintro e w8 ⟨v2, rfl, K2, M2, lo2, L2, hk1, hk2, hM, e1, e2, hlo, hp, hc⟩;rw [HLH.out, sm_2] at e1 e2;obtain ⟨a2, c2, rfl⟩ := own_formN hM.own;have HMx1 : Hid _ := ((HM1.out.below (below_alloc w7 (Obj.cells #[.int .i64 2] 3))).nk hc).mono hk1;clear HM1;have HM1 : Hid _ := HMx1.out;clear HMx1;have HM2 : Hid (MrK K2 w8 lo2 (.slice a2 M2.length c2) M2) := mrk_of hM hk2;have HE2 : Hid _ := e1;have HWx : Hid (Below w.heap.size w w8) := (below_trans HW.out (below_alloc w7 (Obj.cells #[.int .i64 2] 3))).trans (nk_below hc (Nat.le_trans HW.out.size (Below.size (below_alloc w7 (Obj.cells #[.int .i64 2] 3)))));clear HW;have HW : Hid (Below w.heap.size w w8) := HWx.out;clear HP HWx HLH HLN;have HP : Hid _ := hp;have HLH : Hid _ := e2;have HLN : Hid (L2.length ≤ 4096) := by show _ ≤ _; rw [len_h e2]; decide
 have hcd2 : takC 1 mB = 0 := sm_c.2.1;rw [hcd2];clear hk1 hk2 hM e1 e2 hlo hp hc hcd2;go_wp2_with fail;refine (show Calls Tryz.prog 9 #[.pointer (some ⟨P, 0, none⟩), .pointer (some ⟨sb, 0, none⟩), .agg #[.int .i64 5, .int .i64 3, .int .i64 1, .int .i64 1, .int .i64 4, .int .i64 0, .slice none 0 0, .slice none 0 0, .slice none 0 0]] w8 _ from pw_take (m := mC) (HP.out.below (below_same w8)) (Nat.le_trans HW.out.size (Below.size (below_same w8))) ⟨Sv.nil _ _, Sv.nil _ _, qv_nil _⟩ mC_ok (by have h := HLN.out; omega)).mono ?_;rintro e w9 ⟨v3, rfl, K3, M3, lo3, L3, hk1, hk2, hM, e1, e2, hlo, hp, hc⟩;rw [HLH.out, sm_3] at e1 e2;obtain ⟨a3, c3, rfl⟩ := own_formN hM.own;have HMx1 : Hid _ := ((HM1.out.below (below_same w8)).nk hc).mono hk1;clear HM1;have HM1 : Hid _ := HMx1.out;clear HMx1;have HMx2 : Hid _ := ((HM2.out.below (below_same w8)).nk hc).mono hk1;clear HM2;have HM2 : Hid _ := HMx2.out;clear HMx2;have HM3 : Hid (MrK K3 w9 lo3 (.slice a3 M3.length c3) M3) := mrk_of hM hk2;have HE3 : Hid _ := e1;have HWx : Hid (Below w.heap.size w w9) := (below_trans HW.out (below_same w8)).trans (nk_below hc (Nat.le_trans HW.out.size (Below.size (below_same w8))));clear HW;have HW : Hid (Below w.heap.size w w9) := HWx.out;clear HP HWx HLH HLN;have HP : Hid _ := hp;have HLH : Hid _ := e2;have HLN : Hid (L3.length ≤ 4096) := by show _ ≤ _; rw [len_h e2]; decide
 have hcd3 : takC 1 mC = 0 := sm_c.2.2;rw [hcd3];clear hk1 hk2 hM e1 e2 hlo hp hc hcd3;go_wp2_with fail;refine (msgs17 ((HM1.out.r).below (below_trans (below_alloc w9 _) (below_alloc _ _))) (lit_e w9 (small_ok (by omega) (e1_ok (by omega) (by omega)) q0_ok p0_ok)) HE1.out (hq_of HE1.out (by decide))).mono ?_;rintro e w10 ⟨rfl, hB⟩;have HB10 : Hid (Below w9.heap.size w9 w10) := below_trans (below_trans (below_alloc w9 _) (below_alloc _ _)) hB;clear hB;go_wp2_with fail;refine (msgs17 ((HM2.out.r.below HB10.out).below (below_trans (below_trans (below_alloc w10 _) (below_alloc _ _)) (below_alloc _ _))) (lit_q w10 (a := 2) (c := 1) (small_ok (by omega) e0_ok (k1_ok (by omega)) p0_ok) (small_ok (by omega) e0_ok (k1_ok (by omega)) p0_ok)) HE2.out (hq_of HE2.out (by decide))).mono ?_;rintro e w11 ⟨rfl, hB⟩;have HB11 : Hid (Below w9.heap.size w9 w11) := below_trans HB10.out (below_trans (below_trans (below_trans (below_alloc w10 _) (below_alloc _ _)) (below_alloc _ _)) hB);clear hB;go_wp2_with fail;refine (msgs17 ((HM3.out.r.below HB11.out).below (below_trans (below_alloc w11 _) (below_alloc _ _))) (lit_p w11 (q := ⟨1, ⟨true, 1⟩⟩) (small_ok (by omega) e0_ok q0_ok pr1_ok)) HE3.out (hq_of HE3.out (by decide))).mono ?_;rintro e w12 ⟨rfl, hB⟩;have HB12 : Hid (Below w9.heap.size w9 w12) := below_trans HB11.out (below_trans (below_trans (below_alloc w11 _) (below_alloc _ _)) hB);clear hB;go_wp2_with fail;refine (held_walk (HP.out.wm.below HB12.out) HLN.out).mono ?_;rintro e w13 ⟨v, rfl, F, hF, hFm, hB⟩;have HB13 := hidH (below_trans HB12.out hB);obtain ⟨fa, fc, rfl⟩ := own_formN hF.own;have HF := hidH hF
 have HFM : Hid (F.map (·.h) = [⟨1, 4, [2], true, 0⟩]) := by
  show _ = _;rw [hFm];have e : (L3.map fun a => heH a.h) = (L3.map (·.h)).map heH := by rw [List.map_map]; rfl
  rw [e, HLH.out];rfl
 clear hF hFm hB;go_wp2_with fail;refine (held17 (HF.out.below (below_trans (below_alloc w13 _) (below_alloc _ _))) (lit_h w13 (g := true) (c := 0) (i64_s (by omega) (by omega))) HFM.out).mono ?_;rintro e w14 ⟨rfl, hB⟩;have HB14 : Hid (Below w9.heap.size w9 w14) := below_trans HB13.out (below_trans (below_trans (below_alloc w13 _) (below_alloc _ _)) hB);clear hB;go_wp2_with fail;go_ret;exact ⟨rfl, below_trans HW.out HB14.out⟩
end Go.Proofs.YtombjgfajbhbbaaGreat
