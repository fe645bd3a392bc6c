/- Both workers beside both sources: what every call answers and leaves. -/
import Derived.Test.YtombjgfajbhbbaaGreatB46
import Derived.Test.YtombjgfajbhbbaaGreatB45
set_option maxRecDepth 100000
set_option maxHeartbeats 16000000
namespace Go.Proofs.YtombjgfajbhbbaaGreat
open Go.RowKit
section
theorem asg_len (p : Pn) (nd : Int) (S : Sc) (m : Ms) (H : List Hh) : (asgH p nd S m H).2.length ≤ H.length + 1 := by
 unfold asgH;have h1 := out_len (f := kH) H m.B
 split
 ·simp
 ·split
  ·simp only [ins_len]; omega
  ·simp
theorem go_len (p : Pn) (nd : Int) (m : Ms) (H : List Hh) : (goH p nd m H).2.length ≤ H.length + 1 := by
 unfold goH
 split
 ·split
  ·simp only [upd_len]; omega
  ·simp
 ·simp
theorem ans_len (p : Pn) (nd : Int) (m : Ms) (H : List Hh) : (ansH p nd m H).2.length ≤ H.length + 1 := by
 unfold ansH;have h1 := out_len (f := kH) H m.B
 split
 ·split
  ·split
   ·simp only; omega
   ·split
    ·simp
    ·simp only [upd_len]; omega
  ·simp
 ·simp
theorem tak_len (p : Pn) (nd : Int) (S : Sc) (m : Ms) (H : List Hh) : (takA p nd S m H).2.length ≤ H.length + 1 := by
 unfold takA coH
 split
 ·split
  ·split
   ·exact asg_len p nd S m H
   ·split
    ·exact go_len p nd m H
    ·simp
  ·split
   ·exact ans_len p nd m H
   ·simp
 ·simp
def tkC (nd : Int) (m : Ms) (o : Option Sc) (h : Option (List Hh)) : Int := match o, h with | some _, some _ => takC nd m | _, _ => 2
def tkM (p : Pn) (nd : Int) (m : Ms) (o : Option Sc) (h : Option (List Hh)) : List Ms := match o, h with | some S, some H => (takA p nd S m H).1 | _, _ => []
def tkHo (p : Pn) (nd : Int) (m : Ms) (o : Option Sc) (h : Option (List Hh)) : Option (List Hh) := match o, h with | some S, some H => some (takA p nd S m H).2 | _, h => h
def lnH (h : Option (List Hh)) : Nat := match h with | none => 0 | some H => H.length
def heO (h : Option (List Hh)) : List He := match h with | none => [] | some H => H.map heH
theorem tkHo_len (p : Pn) (nd : Int) (m : Ms) (o : Option Sc) (h : Option (List Hh)) : lnH (tkHo p nd m o h) ≤ lnH h + 1 := by
 cases o <;> cases h <;> simp [tkHo, lnH]
 exact tak_len _ _ _ _ _
def Bz (w0 : Nat) (K : Nat → Prop) (w : World) (sv tv wv rv : Value) (p : Pn) (nd : Int) (o1 o2 : Option Sc) (h1 h2 : Option (List Hh)) : Prop :=
 ∃ D, Pg D w sv tv o1 o2 ∧ (∀ x, D x → w0 ≤ x ∧ ¬ K x) ∧ (∀ x, K x → x < w.heap.size) ∧ w0 ≤ w.heap.size ∧
  ((wv = .pointer none ∧ rv = .pointer none ∧ h1 = none ∧ h2 = none) ∨
   ∃ P b ov L Q lv ou M, wv = .pointer (some ⟨P, 0, none⟩) ∧ rv = .pointer (some ⟨Q, 0, none⟩) ∧ h1 = some (L.map (·.h)) ∧ h2 = some (M.map (·.h)) ∧ Wm w P b ov p nd L ∧ Rwk w Q lv ou p nd M ∧
   (∀ x, Bk P b ov L x → w0 ≤ x ∧ ¬ K x ∧ ¬ D x ∧ ¬ Rwb Q lv ou M x) ∧ (∀ x, Rwb Q lv ou M x → w0 ≤ x ∧ ¬ K x ∧ ¬ D x) ∧ o1 ≠ none ∧ o2 ≠ none)
section

variable {w0 : Nat} {K K' : Nat → Prop} {w w' : World} {sv tv wv rv : Value} {p : Pn} {nd : Int} {o1 o2 : Option Sc} {h1 h2 : Option (List Hh)}

theorem Bz.below (h : Bz w0 K w sv tv wv rv p nd o1 o2 h1 h2) (hb : Below w.heap.size w w') : Bz w0 K w' sv tv wv rv p nd o1 o2 h1 h2 := by
 obtain ⟨D, a1, a2, a3, a4, a5⟩ := h;refine ⟨D, a1.below hb, a2, fun x hx => Nat.lt_of_lt_of_le (a3 x hx) hb.size, Nat.le_trans a4 hb.size, ?_⟩;rcases a5 with a5 | ⟨P, b, ov, L, Q, lv, ou, M, e1, e2, e3, e4, b1, b2, b3⟩
 ·exact .inl a5
 ·exact .inr ⟨P, b, ov, L, Q, lv, ou, M, e1, e2, e3, e4, b1.below hb, b2.below hb, b3⟩
theorem Bz.less (h : Bz w0 K w sv tv wv rv p nd o1 o2 h1 h2) (hK : ∀ x, K' x → K x) : Bz w0 K' w sv tv wv rv p nd o1 o2 h1 h2 := by
 obtain ⟨D, a1, a2, a3, a4, a5⟩ := h;refine ⟨D, a1, fun x hx => ⟨(a2 x hx).1, fun e => (a2 x hx).2 (hK x e)⟩, fun x hx => a3 x (hK x hx), a4, ?_⟩;rcases a5 with a5 | ⟨P, b, ov, L, Q, lv, ou, M, e1, e2, e3, e4, b1, b2, b3, b4, b5⟩
 ·exact .inl a5
 ·exact .inr ⟨P, b, ov, L, Q, lv, ou, M, e1, e2, e3, e4, b1, b2, fun x hx => ⟨(b3 x hx).1, fun e => (b3 x hx).2.1 (hK x e), (b3 x hx).2.2⟩, fun x hx => ⟨(b4 x hx).1, fun e => (b4 x hx).2.1 (hK x e), (b4 x hx).2.2⟩, b5⟩
theorem Bz.src {D' D : Nat → Prop} {o1' o2' : Option Sc} (a2 : ∀ x, D x → w0 ≤ x ∧ ¬ K x) (a3 : ∀ x, K x → x < w.heap.size) (a4 : w0 ≤ w.heap.size) (n1 : o1 ≠ none → o1' ≠ none) (n2 : o2 ≠ none → o2' ≠ none)
  (a5 : (wv = .pointer none ∧ rv = .pointer none ∧ h1 = none ∧ h2 = none) ∨
   ∃ P b ov L Q lv ou M, wv = .pointer (some ⟨P, 0, none⟩) ∧ rv = .pointer (some ⟨Q, 0, none⟩) ∧ h1 = some (L.map (·.h)) ∧ h2 = some (M.map (·.h)) ∧ Wm w P b ov p nd L ∧ Rwk w Q lv ou p nd M ∧
   (∀ x, Bk P b ov L x → w0 ≤ x ∧ ¬ K x ∧ ¬ D x ∧ ¬ Rwb Q lv ou M x) ∧ (∀ x, Rwb Q lv ou M x → w0 ≤ x ∧ ¬ K x ∧ ¬ D x) ∧ o1 ≠ none ∧ o2 ≠ none)
  (hg : Pg D' w' sv tv o1' o2') (hc : Ch D w w') (hd : ∀ x, D' x → D x ∨ w.heap.size ≤ x) : Bz w0 K w' sv tv wv rv p nd o1' o2' h1 h2 ∧ Ch (NK w0 K) w w' := by
 refine ⟨⟨D', hg, fun x hx => ?_, fun x hx => Nat.lt_of_lt_of_le (a3 x hx) hc.size, Nat.le_trans a4 hc.size, ?_⟩, ch_nk hc a2⟩
 ·rcases hd x hx with q | q
  ·exact a2 x q
  ·exact ⟨Nat.le_trans a4 q, fun e => by have := a3 x e; omega⟩
 ·rcases a5 with a5 | ⟨P, b, ov, L, Q, lv, ou, M, e1, e2, e3, e4, b1, b2, b3, b4, b5, b6⟩
  ·exact .inl a5
  ·refine .inr ⟨P, b, ov, L, Q, lv, ou, M, e1, e2, e3, e4, b1.ch hc (fun x hx e => (b3 x e).2.2.1 hx), b2.ch hc (fun x hx e => (b4 x e).2.2 hx), fun x hx => ⟨(b3 x hx).1, (b3 x hx).2.1, fun e => ?_, (b3 x hx).2.2.2⟩, fun x hx => ⟨(b4 x hx).1, (b4 x hx).2.1, fun e => ?_⟩, n1 b5, n2 b6⟩
   ·rcases hd x e with q | q
    ·exact (b3 x hx).2.2.1 q
    ·have := b1.lt x hx; omega
   ·rcases hd x e with q | q
    ·exact (b4 x hx).2.2 q
    ·have := b2.lt x hx; omega
theorem bz_prod (h : Bz w0 K w sv tv wv rv p nd o1 o2 h1 h2) (j : Int) {r : Rcd} (hr : r.ok) : Calls Tryz.prog 12 #[sv, .int .i64 j, .agg #[.int .u64 r.k, .float .f64 r.x]] w fun e w' => (∃ c, e = .returned (.int .i64 c)) ∧ Bz w0 K w' sv tv wv rv p nd (prodO o1 j r) o2 h1 h2 ∧ Ch (NK w0 K) w w' := by
 obtain ⟨D, a1, a2, a3, a4, a5⟩ := h;refine (zprodP a1 j hr).mono ?_;rintro e w' ⟨rfl, D', hg, hc, hd⟩;exact ⟨⟨_, rfl⟩, Bz.src a2 a3 a4 (fun h => by cases o1; exact absurd rfl h; simp [prodO]) id a5 hg hc hd⟩
theorem bz_rprod (h : Bz w0 K w sv tv wv rv p nd o1 o2 h1 h2) (j : Int) {r : Rcd} (hr : r.ok) : Calls Tryz.prog 13 #[tv, .int .i64 j, .agg #[.int .u64 r.k, .float .f64 r.x]] w fun e w' => (∃ c, e = .returned (.int .i64 c)) ∧ Bz w0 K w' sv tv wv rv p nd o1 (prodO o2 j r) h1 h2 ∧ Ch (NK w0 K) w w' := by
 obtain ⟨D, a1, a2, a3, a4, a5⟩ := h;refine (zprodR a1 j hr).mono ?_;rintro e w' ⟨rfl, D', hg, hc, hd⟩;exact ⟨⟨_, rfl⟩, Bz.src a2 a3 a4 id (fun h => by cases o2; exact absurd rfl h; simp [prodO]) a5 hg hc hd⟩
theorem bz_switch (h : Bz w0 K w sv tv wv rv p nd o1 o2 h1 h2) (j : Int) (on : Bool) : Calls Tryz.prog 14 #[sv, .int .i64 j, .bool on] w fun e w' => (∃ c, e = .returned (.int .i64 c)) ∧ Bz w0 K w' sv tv wv rv p nd (switchO o1 j on) o2 h1 h2 ∧ Ch (NK w0 K) w w' := by
 obtain ⟨D, a1, a2, a3, a4, a5⟩ := h;refine (zswitchP a1 j on).mono ?_;rintro e w' ⟨rfl, D', hg, hc, hd⟩;exact ⟨⟨_, rfl⟩, Bz.src a2 a3 a4 (fun h => by cases o1; exact absurd rfl h; simp [switchO]) id a5 hg hc hd⟩
theorem bz_rswitch (h : Bz w0 K w sv tv wv rv p nd o1 o2 h1 h2) (j : Int) (on : Bool) : Calls Tryz.prog 15 #[tv, .int .i64 j, .bool on] w fun e w' => (∃ c, e = .returned (.int .i64 c)) ∧ Bz w0 K w' sv tv wv rv p nd o1 (switchO o2 j on) h1 h2 ∧ Ch (NK w0 K) w w' := by
 obtain ⟨D, a1, a2, a3, a4, a5⟩ := h;refine (zswitchR a1 j on).mono ?_;rintro e w' ⟨rfl, D', hg, hc, hd⟩;exact ⟨⟨_, rfl⟩, Bz.src a2 a3 a4 id (fun h => by cases o2; exact absurd rfl h; simp [switchO]) a5 hg hc hd⟩
theorem bz_take {m : Ms} {ea qa pa : Option Addr} {en ec qn qc pn pc : Nat} (h : Bz w0 K w sv tv wv rv p nd o1 o2 h1 h2) (hm : ML w m (.slice ea en ec) (.slice qa qn qc) (.slice pa pn pc)) (hok : m.ok) (hl : lnH h1 ≤ 4096) :
  Calls Tryz.prog 9 #[wv, sv, .agg #[.int .i64 m.K, .int .i64 m.F, .int .i64 m.T, .int .i64 m.B, .int .i64 m.A, .int .i64 m.C, .slice ea en ec, .slice qa qn qc, .slice pa pn pc]] w fun e w' => ∃ v M lo K', e = .returned (.tuple #[v, .int .i64 (tkC nd m o1 h1)]) ∧ M.map (·.m) = tkM p nd m o1 h1 ∧ (∀ x, K x → K' x) ∧ MrK K' w' lo v M ∧ Bz w0 K' w' sv tv wv rv p nd o1 o2 (tkHo p nd m o1 h1) h2 ∧ Ch (NK w0 K) w w' := by
 obtain ⟨D, a1, a2, a3, a4, a5⟩ := h;rcases a5 with ⟨e1, e2, e3, e4⟩ | ⟨P, b, ov, L, Q, lv, ou, M, e1, e2, e3, e4, b1, b2, b3, b4, b5, b6⟩
 ·subst e1 e3;refine (take_nil17 sv m).mono ?_;rintro e w' ⟨rfl, hb⟩;refine ⟨_, [], w'.heap.size, K, by cases o1 <;> rfl, by cases o1 <;> rfl, fun _ h => h, mrk_of (mr_nil _ _) (fun x q1 q2 => by omega), ?_, Ch.of_below hb⟩;have e5 : tkHo p nd m o1 none = none := by cases o1 <;> rfl
  rw [e5];exact Bz.below ⟨D, a1, a2, a3, a4, .inl ⟨rfl, e2, rfl, e4⟩⟩ hb
 ·obtain ⟨hlt, ⟨q1, _⟩ | ⟨S1, S2, Ds, Dt, q1, q2, s1, s2, s3, s4, s5⟩⟩ := a1
  ·exact absurd q1 b5
  subst e1 e3 q1;have hv : ∃ sb, sv = .pointer (some ⟨sb, 0, none⟩) := by obtain ⟨sb, _, _, _, _, e, _⟩ := s1; exact ⟨sb, e⟩
  obtain ⟨sb, rfl⟩ := hv;refine (take_walk b1 s1 hm hok (by simpa [lnH] using hl)).mono ?_;rintro e w' ⟨v, rfl, T, lo, L', hM, g1, hn, g2, hlo, hl2, hbk, hc⟩
  have hK2 : ∀ x, Bk P b ov L' x → w0 ≤ x ∧ ¬ (K x ∨ (lo ≤ x ∧ x < w'.heap.size)) ∧ ¬ D x ∧ ¬ Rwb Q lv ou M x := fun x hx => by
   have h2 := (hbk x hx).2;rcases (hbk x hx).1 with q | q
   ·have h3 := b3 x q;exact ⟨h3.1, fun e => by rcases e with e | e; exact h3.2.1 e; omega, h3.2.2⟩
   ·exact ⟨by omega, fun e => by rcases e with e | e; (have := a3 x e; omega); omega, fun e => by have := hlt x e; omega, fun e => by have := b2.lt x e; omega⟩
  refine ⟨v, T, lo, fun x => K x ∨ (lo ≤ x ∧ x < w'.heap.size), rfl, g1, fun _ hx => .inl hx, mrk_of hM (fun x z1 z2 => .inr ⟨z1, z2⟩), ⟨D, ?_, fun x hx => ⟨(a2 x hx).1, fun e => ?_⟩, fun x hx => ?_, Nat.le_trans a4 hc.size, .inr ⟨P, b, ov, L', Q, lv, ou, M, rfl, e2, ?_, e4, hn, b2.ch hc (fun x hx e => (b3 x hx).2.2.2 e), hK2, fun x hx => ⟨(b4 x hx).1, fun e => ?_, (b4 x hx).2.2⟩, b5, b6⟩⟩, ch_nk hc (fun x hx => ⟨(b3 x hx).1, (b3 x hx).2.1⟩)⟩
  ·exact Pg.ch (E := D) ⟨hlt, .inr ⟨S1, S2, Ds, Dt, rfl, q2, s1, s2, s3, s4, s5⟩⟩ hc (fun x hx e => (b3 x e).2.2.1 hx)
  ·rcases e with e | e
   ·exact (a2 x hx).2 e
   ·have := hlt x hx; omega
  ·rcases hx with e | e
   ·exact Nat.lt_of_lt_of_le (a3 x e) hc.size
   ·exact e.2
  ·show some _ = some _;rw [g2]
  ·rcases e with e | e
   ·exact (b4 x hx).2.1 e
   ·have := b2.lt x hx; omega
theorem bz_rtake {m : Ms} {ea qa pa : Option Addr} {en ec qn qc pn pc : Nat} (h : Bz w0 K w sv tv wv rv p nd o1 o2 h1 h2) (hm : ML w m (.slice ea en ec) (.slice qa qn qc) (.slice pa pn pc)) (hok : m.ok) (hl : lnH h2 ≤ 4096) :
  Calls Tryz.prog 10 #[rv, tv, .agg #[.int .i64 m.K, .int .i64 m.F, .int .i64 m.T, .int .i64 m.B, .int .i64 m.A, .int .i64 m.C, .slice ea en ec, .slice qa qn qc, .slice pa pn pc]] w fun e w' => ∃ v M lo K', e = .returned (.tuple #[v, .int .i64 (tkC nd m o2 h2)]) ∧ M.map (·.m) = tkM p nd m o2 h2 ∧ (∀ x, K x → K' x) ∧ MrK K' w' lo v M ∧ Bz w0 K' w' sv tv wv rv p nd o1 o2 h1 (tkHo p nd m o2 h2) ∧ Ch (NK w0 K) w w' := by
 obtain ⟨D, a1, a2, a3, a4, a5⟩ := h;rcases a5 with ⟨e1, e2, e3, e4⟩ | ⟨P, b, ov, L, Q, lv, ou, M, e1, e2, e3, e4, b1, b2, b3, b4, b5, b6⟩
 ·subst e2 e4;refine (rtake_nil17 tv m).mono ?_;rintro e w' ⟨rfl, hb⟩;refine ⟨_, [], w'.heap.size, K, by cases o2 <;> rfl, by cases o2 <;> rfl, fun _ h => h, mrk_of (mr_nil _ _) (fun x q1 q2 => by omega), ?_, Ch.of_below hb⟩;have e5 : tkHo p nd m o2 none = none := by cases o2 <;> rfl
  rw [e5];exact Bz.below ⟨D, a1, a2, a3, a4, .inl ⟨e1, rfl, e3, rfl⟩⟩ hb
 ·obtain ⟨hlt, ⟨_, q2, _⟩ | ⟨S1, S2, Ds, Dt, q1, q2, s1, s2, s3, s4, s5⟩⟩ := a1
  ·exact absurd q2 b6
  subst e2 e4 q2;have hv : ∃ sb, tv = .pointer (some ⟨sb, 0, none⟩) := by obtain ⟨sb, _, _, _, _, e, _⟩ := s2; exact ⟨sb, e⟩
  obtain ⟨sb, rfl⟩ := hv;refine (rtake17_walk b2 s2 hm hok (by simpa [lnH] using hl)).mono ?_;rintro e w' ⟨v, rfl, T, lo, lv', M', hM, g1, hn, g2, hlo, hl2, hbk, hc⟩;refine ⟨v, T, lo, fun x => K x ∨ (lo ≤ x ∧ x < w'.heap.size), rfl, g1, fun _ hx => .inl hx, mrk_of hM (fun x z1 z2 => .inr ⟨z1, z2⟩), ⟨D, ?_, fun x hx => ⟨(a2 x hx).1, fun e => ?_⟩, fun x hx => ?_, Nat.le_trans a4 hc.size, .inr ⟨P, b, ov, L, Q, lv', ou, M', e1, rfl, e3, ?_, b1.ch hc (fun x hx e => (b3 x e).2.2.2 hx), hn, fun x hx => ⟨(b3 x hx).1, fun e => ?_, (b3 x hx).2.2.1, fun e => ?_⟩, fun x hx => ?_, b5, b6⟩⟩, ch_nk hc (fun x hx => ⟨(b4 x hx).1, (b4 x hx).2.1⟩)⟩
  ·exact Pg.ch (E := D) ⟨hlt, .inr ⟨S1, S2, Ds, Dt, q1, rfl, s1, s2, s3, s4, s5⟩⟩ hc (fun x hx e => (b4 x e).2.2 hx)
  ·rcases e with e | e
   ·exact (a2 x hx).2 e
   ·have := hlt x hx; omega
  ·rcases hx with e | e
   ·exact Nat.lt_of_lt_of_le (a3 x e) hc.size
   ·exact e.2
  ·show some _ = some _;rw [g2]
  ·rcases e with e | e
   ·exact (b3 x hx).2.1 e
   ·have := b1.lt x hx; omega
  ·rcases (hbk x e).1 with q | q
   ·exact (b3 x hx).2.2.2 q
   ·have := b1.lt x hx; omega
  ·have h2 := (hbk x hx).2;rcases (hbk x hx).1 with q | q
   ·have h3 := b4 x q;exact ⟨h3.1, fun e => by rcases e with e | e; exact h3.2.1 e; omega, h3.2.2⟩
   ·exact ⟨by omega, fun e => by rcases e with e | e; (have := a3 x e; omega); omega, fun e => by have := hlt x e; omega⟩
theorem bz_none {m : Ms} {ea qa pa : Option Addr} {en ec qn qc pn pc : Nat} (h : Bz w0 K w sv tv wv rv p nd o1 o2 h1 h2) :
  Calls Tryz.prog 9 #[wv, .pointer none, .agg #[.int .i64 m.K, .int .i64 m.F, .int .i64 m.T, .int .i64 m.B, .int .i64 m.A, .int .i64 m.C, .slice ea en ec, .slice qa qn qc, .slice pa pn pc]] w fun e w' => e = .returned (.tuple #[.slice none 0 0, .int .i64 2]) ∧ Below w.heap.size w w' := by
 obtain ⟨D, a1, a2, a3, a4, ⟨e1, e2, e3, e4⟩ | ⟨P, b, ov, L, Q, lv, ou, M, e1, e2, e3, e4, b1, b2, b3, b4, b5, b6⟩⟩ := h
 ·subst e1;exact take_nil17 _ m
 ·subst e1;exact take_none17 P m
theorem bz_held (h : Bz w0 K w sv tv wv rv p nd o1 o2 h1 h2) (hl : lnH h1 ≤ 4096) : Calls Tryz.prog 17 #[wv] w fun e w' => ∃ v, e = .returned v ∧ HeR w (heO h1) v w' := by
 obtain ⟨D, a1, a2, a3, a4, ⟨e1, e2, e3, e4⟩ | ⟨P, b, ov, L, Q, lv, ou, M, e1, e2, e3, e4, b1, b2, b3, b4, b5, b6⟩⟩ := h
 ·subst e1 e3;exact held_nil17
 ·subst e1 e3;refine (held_walk b1 (by simpa [lnH] using hl)).mono ?_;rintro e w' ⟨v, rfl, q⟩;refine ⟨v, rfl, ?_⟩;show HeR w ((L.map (·.h)).map heH) v w';rw [List.map_map];exact q
theorem bz_rheld (h : Bz w0 K w sv tv wv rv p nd o1 o2 h1 h2) (hl : lnH h2 ≤ 4096) : Calls Tryz.prog 18 #[rv] w fun e w' => ∃ v, e = .returned v ∧ HeR w (heO h2) v w' := by
 obtain ⟨D, a1, a2, a3, a4, ⟨e1, e2, e3, e4⟩ | ⟨P, b, ov, L, Q, lv, ou, M, e1, e2, e3, e4, b1, b2, b3, b4, b5, b6⟩⟩ := h
 ·subst e2 e4;exact rheld_nil17
 ·subst e2 e4;refine (held17r_walk b2 (by simpa [lnH] using hl)).mono ?_;rintro e w' ⟨v, rfl, q⟩;refine ⟨v, rfl, ?_⟩;show HeR w ((M.map (·.h)).map heH) v w';rw [List.map_map];exact q
end
end
end Go.Proofs.YtombjgfajbhbbaaGreat
