/- Comparisons of the laws: same, lists; lists of pairs in memory. -/
import Derived.Test.YtombjgfajbhbbaaGreatB08
import Derived.Maps.AppendAt
import Derived.OneCell
set_option maxRecDepth 100000
set_option maxHeartbeats 16000000
namespace Go.Proofs.YtombjgfajbhbbaaGreat
open Go.RowKit
section
structure Pn where
 P : Int
 S : Int
 W : Int
 A : Int
 B : Int
 N : Int
 G : Int
 l : List Stp
def btw (x a b : Int) : Bool := decide (a ≤ x) && decide (x ≤ b)
def Pn.siz (p : Pn) : Bool := btw p.P 1 4 && btw p.S 1 4 && btw p.W 1 4
def Pn.pac (p : Pn) : Bool := btw p.B 1 16 && btw p.N 1 4 && btw p.G 8 64
def Pn.num (p : Pn) : Bool := p.siz && knownB p.A && p.pac
def Pn.chk (p : Pn) : Int := if p.num then chkI p.l else 140
def Pn.is (p : Pn) : Bool := p.num && checkB p.l
def Pn.nodes (p : Pn) : Int := if p.is then 1 + p.W + p.S else 0
def Pn.kind (p : Pn) (n : Int) : Int := if n < 0 ∨ p.nodes ≤ n then 0 else if n < 1 then 1 else if n < 1 + p.W then 2 else 3
def Pn.place (p : Pn) (k : Nat) : Nat := k % p.S.toNat
theorem Pn.chk_is (p : Pn) : (p.chk == 0) = p.is := by
 unfold Pn.chk Pn.is chkI
 cases p.num <;> cases checkB p.l <;> rfl
theorem Pn.chk_ok {p : Pn} (h : p.is = true) : p.chk = 0 := by
 have := p.chk_is;rw [h] at this;simpa using this
theorem Pn.chk_no {p : Pn} (h : p.is = false) : (p.chk == 0) = false := by rw [p.chk_is, h]
theorem Pn.is_num {p : Pn} (h : p.is = true) : (1 ≤ p.P ∧ p.P ≤ 4) ∧ (1 ≤ p.S ∧ p.S ≤ 4) ∧ (1 ≤ p.W ∧ p.W ≤ 4) ∧ (1 ≤ p.A ∧ p.A ≤ 4) ∧ (1 ≤ p.B ∧ p.B ≤ 16) ∧ (1 ≤ p.N ∧ p.N ≤ 4) ∧ 8 ≤ p.G ∧ p.G ≤ 64 := by
 unfold Pn.is Pn.num Pn.siz Pn.pac knownB btw at h;simp only [Bool.and_eq_true, decide_eq_true_eq] at h;omega
structure Bx (w : World) (g : Nat) (p : Pn) (ov : Value) : Prop where
 c0 : w.cell? ⟨g, 0, none⟩ = some (.int .i64 p.P)
 c1 : w.cell? ⟨g, 1, none⟩ = some (.int .i64 p.S)
 c2 : w.cell? ⟨g, 2, none⟩ = some (.int .i64 p.W)
 c3 : w.cell? ⟨g, 3, none⟩ = some ov
 c4 : w.cell? ⟨g, 4, none⟩ = some (.int .i64 p.A)
 c5 : w.cell? ⟨g, 5, none⟩ = some (.int .i64 p.B)
 c6 : w.cell? ⟨g, 6, none⟩ = some (.int .i64 p.N)
 c7 : w.cell? ⟨g, 7, none⟩ = some (.int .i64 p.G)
theorem Bx.below {w w' : World} {g B : Nat} {p : Pn} {ov : Value} (h : Bx w g p ov) (hb : Below B w w') (hg : g < B) : Bx w' g p ov :=
 ⟨by rw [hb.cell (p := ⟨g, 0, none⟩) hg]; exact h.c0, by rw [hb.cell (p := ⟨g, 1, none⟩) hg]; exact h.c1, by rw [hb.cell (p := ⟨g, 2, none⟩) hg]; exact h.c2, by rw [hb.cell (p := ⟨g, 3, none⟩) hg]; exact h.c3, by rw [hb.cell (p := ⟨g, 4, none⟩) hg]; exact h.c4, by rw [hb.cell (p := ⟨g, 5, none⟩) hg]; exact h.c5, by rw [hb.cell (p := ⟨g, 6, none⟩) hg]; exact h.c6, by rw [hb.cell (p := ⟨g, 7, none⟩) hg]; exact h.c7⟩
theorem box_new (w : World) (p : Pn) (ov : Value) : Bx (w.alloc (.cells #[.int .i64 p.P, .int .i64 p.S, .int .i64 p.W, ov, .int .i64 p.A, .int .i64 p.B, .int .i64 p.N, .int .i64 p.G] 24)) w.heap.size p ov := by
 constructor <;> simp [go_sem]
theorem box_then {w w' : World} {p : Pn} {ov : Value} (hb : Below (w.alloc (.cells #[.int .i64 p.P, .int .i64 p.S, .int .i64 p.W, ov, .int .i64 p.A, .int .i64 p.B, .int .i64 p.N, .int .i64 p.G] 24)).heap.size (w.alloc (.cells #[.int .i64 p.P, .int .i64 p.S, .int .i64 p.W, ov, .int .i64 p.A, .int .i64 p.B, .int .i64 p.N, .int .i64 p.G] 24)) w') : Bx w' w.heap.size p ov := (box_new w p ov).below hb (by simp)
theorem within_walk (x a b : Int) (w : World) : Calls Tryz.prog 90 #[.int .i64 x, .int .i64 a, .int .i64 b] w fun e w' => e = .returned (.bool (btw x a b)) ∧ w' = w := by
 go_in;go_wp2;all_goals (go_ret; exact ⟨ret_bool (by unfold btw; simp <;> omega), rfl⟩)
theorem rwithin_walk (x b : Int) (w : World) : Calls Tryz.prog 55 #[.int .i64 x, .int .i64 b] w fun e w' => e = .returned (.bool (btw x 1 b)) ∧ w' = w := by
 go_in;go_wp2;all_goals (go_ret; exact ⟨ret_bool (by unfold btw; simp <;> omega), rfl⟩)
theorem sized_walk (p : Pn) (ov : Value) (w : World) : Calls Tryz.prog 50 #[.agg #[.int .i64 p.P, .int .i64 p.S, .int .i64 p.W, ov, .int .i64 p.A, .int .i64 p.B, .int .i64 p.N, .int .i64 p.G]] w fun e w' => e = .returned (.bool p.siz) ∧ Below w.heap.size w w' := by
 have HS : Hid (p.siz = (btw p.P 1 4 && btw p.S 1 4 && btw p.W 1 4)) := rfl
 cases h1 : btw p.P 1 4 <;> cases h2 : btw p.S 1 4 <;> cases h3 : btw p.W 1 4
 all_goals
  rw [HS.out, h1, h2, h3];clear HS;go_in;go_wp2_with (go_at_call 90; refine (within_walk _ _ _ _).mono ?_; simp only [h1, h2, h3]; rintro e w9 ⟨rfl, h9⟩; replace h9 := h9.symm; subst h9);go_ret;exact ⟨rfl, below_alloc _ _⟩
theorem paced_walk (p : Pn) (ov : Value) (w : World) : Calls Tryz.prog 52 #[.agg #[.int .i64 p.P, .int .i64 p.S, .int .i64 p.W, ov, .int .i64 p.A, .int .i64 p.B, .int .i64 p.N, .int .i64 p.G]] w fun e w' => e = .returned (.bool p.pac) ∧ Below w.heap.size w w' := by
 have HS : Hid (p.pac = (btw p.B 1 16 && btw p.N 1 4 && btw p.G 8 64)) := rfl
 cases h1 : btw p.B 1 16 <;> cases h2 : btw p.N 1 4 <;> cases h3 : btw p.G 8 64
 all_goals
  rw [HS.out, h1, h2, h3];clear HS;go_in;go_wp2_with (go_at_call 90; refine (within_walk _ _ _ _).mono ?_; simp only [h1, h2, h3]; rintro e w9 ⟨rfl, h9⟩; replace h9 := h9.symm; subst h9);go_ret;exact ⟨rfl, below_alloc _ _⟩
theorem first_walk {p : Pn} (ov : Value) (h : p.is = true) (w : World) : Calls Tryz.prog 54 #[.agg #[.int .i64 p.P, .int .i64 p.S, .int .i64 p.W, ov, .int .i64 p.A, .int .i64 p.B, .int .i64 p.N, .int .i64 p.G]] w fun e w' => e = .returned (.int .i64 (1 + p.W)) ∧ Below w.heap.size w w' := by
 obtain ⟨_, _, ⟨w1, w2⟩, _⟩ := Pn.is_num h;go_in;go_wp2_with fail;go_ret;exact ⟨rfl, below_alloc _ _⟩
section

variable {p : Pn} {ao : Option Addr} {n cap : Nat} {w : World}

theorem pcheck_walk {ov : Value} (ho : Ov w ov p.l) : Calls Tryz.prog 20 #[.agg #[.int .i64 p.P, .int .i64 p.S, .int .i64 p.W, ov, .int .i64 p.A, .int .i64 p.B, .int .i64 p.N, .int .i64 p.G]] w fun e w' => e = .returned (.int .i64 p.chk) ∧ Below w.heap.size w w' := by
 obtain ⟨⟨ao, cap, rfl, o1, o2, o3, o4⟩, _⟩ := ho;have HO : Hid (Ol w ao p.l) := o4;have HL : Hid (p.l.length ≤ maxLen) := Nat.le_trans o1 o2;clear o1 o2 o3 o4;have HC : Hid (p.chk = if (p.siz && knownB p.A && p.pac) then chkI p.l else 140) := rfl
 cases h1 : p.siz
 ·rw [HC.out, h1];go_in;go_wp2_with fail;refine (sized_walk p _ _).mono ?_;rw [h1];rintro e w1 ⟨rfl, hB1⟩;go_wp2_with fail;go_ret;exact ⟨rfl, below_trans (below_alloc _ _) hB1⟩
 cases h2 : knownB p.A
 ·rw [HC.out, h1, h2];go_in;go_wp2_with fail;refine (sized_walk p _ _).mono ?_;rw [h1];rintro e w1 ⟨rfl, hB1⟩;have HB1 : Hid (Below w.heap.size w w1) := below_trans (below_alloc _ _) hB1;obtain ⟨c0, c1, c2, c3, c4, c5, c6, c7⟩ := box_then hB1;clear hB1;go_wp2_with (go_at_call 51; refine (known_walk _ _).mono ?_; rw [h2]; rintro e w9 ⟨rfl, h9⟩; replace h9 := h9.symm; subst h9);go_ret;exact ⟨rfl, HB1.out⟩
 cases h3 : p.pac
 ·rw [HC.out, h1, h2, h3];go_in;go_wp2_with fail;refine (sized_walk p _ _).mono ?_;rw [h1];rintro e w1 ⟨rfl, hB1⟩;have HB1 : Hid (Below w.heap.size w w1) := below_trans (below_alloc _ _) hB1;obtain ⟨c0, c1, c2, c3, c4, c5, c6, c7⟩ := box_then hB1;clear hB1;go_wp2_with (go_at_call 51; refine (known_walk _ _).mono ?_; rw [h2]; rintro e w9 ⟨rfl, h9⟩; replace h9 := h9.symm; subst h9);refine (paced_walk p _ _).mono ?_;rw [h3];rintro e w2 ⟨rfl, hB2⟩;go_wp2_with fail;go_ret;exact ⟨rfl, below_trans HB1.out hB2⟩
 ·rw [HC.out, h1, h2, h3];go_in;go_wp2_with fail;refine (sized_walk p _ _).mono ?_;rw [h1];rintro e w1 ⟨rfl, hB1⟩;have HB1 : Hid (Below w.heap.size w w1) := below_trans (below_alloc _ _) hB1;have HX : Hid (Bx w1 w.heap.size p (.slice ao p.l.length cap)) := box_then hB1
  have HX1 : Hid (w.heap.size < w1.heap.size) := by
   have := hB1.size;show _ < _;simp at this;omega
  obtain ⟨c0, c1, c2, c3, c4, c5, c6, c7⟩ := box_then hB1;clear hB1;go_wp2_with (go_at_call 51; refine (known_walk _ _).mono ?_; rw [h2]; rintro e w9 ⟨rfl, h9⟩; replace h9 := h9.symm; subst h9);refine (paced_walk p _ _).mono ?_;rw [h3];rintro e w2 ⟨rfl, hB2⟩;have HB2 := hidH (below_trans HB1.out hB2);clear c0 c1 c2 c3 c4 c5 c6 c7;obtain ⟨c0, c1, c2, c3, c4, c5, c6, c7⟩ := HX.out.below hB2 HX1.out;clear hB2;go_wp2_with fail;refine (check_walk HL.out (HO.out.below HB2.out)).mono ?_;rintro e w3 ⟨rfl, hB3⟩;go_wp2_with fail;go_ret;exact ⟨rfl, below_trans HB2.out hB3⟩
theorem isplan_walk {ov : Value} (ho : Ov w ov p.l) : Calls Tryz.prog 91 #[.agg #[.int .i64 p.P, .int .i64 p.S, .int .i64 p.W, ov, .int .i64 p.A, .int .i64 p.B, .int .i64 p.N, .int .i64 p.G]] w fun e w' => e = .returned (.bool p.is) ∧ Below w.heap.size w w' := by
 have HO : Hid (Ov w ov p.l) := ho;clear ho;go_in;go_wp2_with fail;refine (pcheck_walk (HO.out.below (below_alloc _ _))).mono ?_;rintro e w1 ⟨rfl, hB1⟩;go_wp2_with fail;go_ret;exact ⟨ret_bool p.chk_is, below_trans (below_alloc _ _) hB1⟩
end
end
section
theorem Bx.all {w1 : World} {g : Nat} {p : Pn} {ov : Value} (h : Bx w1 g p ov) (hg : g < w1.heap.size) : ∀ wx, Below w1.heap.size w1 wx → Bx wx g p ov := fun _ hb => h.below hb hg
theorem box_lt {w w1 : World} {p : Pn} {ov : Value} (hb : Below (w.alloc (.cells #[.int .i64 p.P, .int .i64 p.S, .int .i64 p.W, ov, .int .i64 p.A, .int .i64 p.B, .int .i64 p.N, .int .i64 p.G] 24)).heap.size (w.alloc (.cells #[.int .i64 p.P, .int .i64 p.S, .int .i64 p.W, ov, .int .i64 p.A, .int .i64 p.B, .int .i64 p.N, .int .i64 p.G] 24)) w1) : w.heap.size < w1.heap.size := by
 have := hb.size;simp at this;omega
section

variable {p : Pn} {w : World} {ov : Value}

theorem nodes_walk (ho : Ov w ov p.l) : Calls Tryz.prog 53 #[.agg #[.int .i64 p.P, .int .i64 p.S, .int .i64 p.W, ov, .int .i64 p.A, .int .i64 p.B, .int .i64 p.N, .int .i64 p.G]] w fun e w' => e = .returned (.int .i64 p.nodes) ∧ Below w.heap.size w w' := by
 have HO : Hid (Ov w ov p.l) := ho;clear ho;have HN : Hid (p.nodes = if p.is then 1 + p.W + p.S else 0) := rfl
 cases hp : p.is
 ·rw [HN.out, hp];go_in;go_wp2_with fail;refine (isplan_walk (HO.out.below (below_alloc _ _))).mono ?_;rw [hp];rintro e w1 ⟨rfl, hB1⟩;go_wp2_with fail;go_ret;exact ⟨rfl, below_trans (below_alloc _ _) hB1⟩
 ·rw [HN.out, hp];obtain ⟨_, ⟨s1, s2⟩, ⟨w1, w2⟩, _⟩ := Pn.is_num hp;go_in;go_wp2_with fail;refine (isplan_walk (HO.out.below (below_alloc _ _))).mono ?_;rw [hp];rintro e w1 ⟨rfl, hB1⟩;have HB1 : Hid (Below w.heap.size w w1) := below_trans (below_alloc _ _) hB1;have HX := (box_then hB1).all (box_lt hB1);have c0 := fun wx h => (HX wx h).c0;have c1 := fun wx h => (HX wx h).c1;have c2 := fun wx h => (HX wx h).c2;have c3 := fun wx h => (HX wx h).c3;have c4 := fun wx h => (HX wx h).c4;have c5 := fun wx h => (HX wx h).c5;have c6 := fun wx h => (HX wx h).c6;have c7 := fun wx h => (HX wx h).c7;clear hB1 HX;go_wp2_with fail;refine wp_region_noPanic ?_;refine wp_region_held_drew (S := fun wx => Below w1.heap.size w1 wx) (by kernel_rfl) ?_ fun hHeld => ?_
  ·exact below_drw _
  refine tkS 0 6 rfl hHeld ?_;refine tkS 2 8 rfl hHeld ?_;refine tkS 3 9 rfl hHeld ?_;refine rdH 1 7 rfl fun K hK => ?_;go_simp;refine (first_walk _ hp _).mono ?_;rintro e w2 ⟨rfl, hB2⟩;refine hK.out _ _ ?_ fun hHeld => ?_
  ·exact below_trans hHeld hB2
  clear hK K;try simp only [Act.put, zz]
  refine tkS 4 10 rfl hHeld ?_;refine tkS 5 2 rfl hHeld ?_;refine wpAnyH_done (by kernel_rfl) ?_ _;refine NoPanic.normal ?_;go_wp2_with fail;go_ret;exact ⟨ret_int (by rw [IntKind.wrap_i64]; omega), below_trans HB1.out hHeld⟩
theorem kind_in {n : Int} (h0 : ¬ n < 0) (hn : ¬ p.nodes ≤ n) : p.is = true := by
 cases h : p.is
 ·unfold Pn.nodes at hn;rw [h] at hn;simp at hn;omega
 ·rfl
theorem kind_walk (n : Int) (ho : Ov w ov p.l) : Calls Tryz.prog 21 #[.agg #[.int .i64 p.P, .int .i64 p.S, .int .i64 p.W, ov, .int .i64 p.A, .int .i64 p.B, .int .i64 p.N, .int .i64 p.G], .int .i64 n] w fun e w' => e = .returned (.int .i64 (p.kind n)) ∧ Below w.heap.size w w' := by
 have HO : Hid (Ov w ov p.l) := ho;clear ho;have HN : Hid (p.kind n = if n < 0 ∨ p.nodes ≤ n then 0 else if n < 1 then 1 else if n < 1 + p.W then 2 else 3) := rfl;by_cases h0 : n < 0
 ·rw [HN.out, if_pos (.inl h0)];go_in;go_wp2_with fail;go_ret;exact ⟨rfl, below_alloc _ _⟩
 by_cases h1 : p.nodes ≤ n
 ·rw [HN.out, if_pos (.inr h1)];go_in;go_wp2_with fail;refine (nodes_walk (HO.out.below (below_alloc _ _))).mono ?_;rintro e w1 ⟨rfl, hB1⟩;go_wp2_with fail;go_ret;exact ⟨rfl, below_trans (below_alloc _ _) hB1⟩
 have hp := kind_in h0 h1;have HP : Hid (p.is = true) := hp;obtain ⟨_, ⟨s1, s2⟩, ⟨w1, w2⟩, _⟩ := Pn.is_num hp;clear hp;rw [HN.out, if_neg (by omega)];clear HN;by_cases h2 : n < 1
 ·rw [if_pos h2];go_in;go_wp2_with fail;refine (nodes_walk (HO.out.below (below_alloc _ _))).mono ?_;rintro e w1 ⟨rfl, hB1⟩;go_wp2_with fail;go_ret;exact ⟨rfl, below_trans (below_alloc _ _) hB1⟩
 rw [if_neg h2];by_cases h3 : n < 1 + p.W
 ·rw [if_pos h3];go_in;go_wp2_with fail;refine (nodes_walk (HO.out.below (below_alloc _ _))).mono ?_;rintro e w1 ⟨rfl, hB1⟩;have HB1 : Hid (Below w.heap.size w w1) := below_trans (below_alloc _ _) hB1;obtain ⟨c0, c1, c2, c3, c4, c5, c6, c7⟩ := box_then hB1;clear hB1;go_wp2_with fail;refine (first_walk _ HP.out _).mono ?_;rintro e w2 ⟨rfl, hB2⟩;go_wp2_with fail;go_ret;exact ⟨rfl, below_trans HB1.out hB2⟩
 ·rw [if_neg h3];go_in;go_wp2_with fail;refine (nodes_walk (HO.out.below (below_alloc _ _))).mono ?_;rintro e w1 ⟨rfl, hB1⟩;have HB1 : Hid (Below w.heap.size w w1) := below_trans (below_alloc _ _) hB1;obtain ⟨c0, c1, c2, c3, c4, c5, c6, c7⟩ := box_then hB1;clear hB1;go_wp2_with fail;refine (first_walk _ HP.out _).mono ?_;rintro e w2 ⟨rfl, hB2⟩;go_wp2_with fail;go_ret;exact ⟨rfl, below_trans HB1.out hB2⟩
theorem place_walk (k : Nat) (hk : k < 18446744073709551616) (hp : p.is = true) : Calls Tryz.prog 122 #[.agg #[.int .i64 p.P, .int .i64 p.S, .int .i64 p.W, ov, .int .i64 p.A, .int .i64 p.B, .int .i64 p.N, .int .i64 p.G], .int .u64 k] w fun e w' => e = .returned (.int .i64 (p.place k)) ∧ Below w.heap.size w w' := by
 obtain ⟨_, ⟨s1, s2⟩, ⟨w1, w2⟩, _⟩ := Pn.is_num hp;have HP : Hid (p.place k = k % p.S.toNat) := rfl;have hlt : p.place k < p.S.toNat := by rw [HP.out]; exact Nat.mod_lt _ (by omega)
 obtain ⟨r, hr⟩ : ∃ r : Nat, r = p.place k := ⟨_, rfl⟩
 have hm : (k : Int) % p.S = r := by
  rw [hr, HP.out, show p.S = ((p.S.toNat : Nat) : Int) by omega];simp
 have hm' : (k : Int).tmod p.S = r := by rw [Int.tmod_eq_emod_of_nonneg (by omega)]; exact hm
 have hr4 : r < 4 := by omega
 rw [← hr];have hw0 : ¬ p.S = 0 := by omega
 have HR : Hid (r = p.place k) := hr;clear hr hlt;go_in;go_wp2_with fail;go_ret;exact ⟨rfl, below_alloc _ _⟩
end
end
section
theorem place_lt {p : Pn} (k : Nat) (hp : p.is = true) : p.place k < 4 ∧ p.place k < p.S.toNat := by
 obtain ⟨_, ⟨s1, s2⟩, _⟩ := Pn.is_num hp;have : p.place k < p.S.toNat := Nat.mod_lt _ (by omega);omega
section

variable {p : Pn} {w : World} {ov : Value}

theorem rpcheck_walk (ho : Ov w ov p.l) : Calls Tryz.prog 22 #[.agg #[.int .i64 p.P, .int .i64 p.S, .int .i64 p.W, ov, .int .i64 p.A, .int .i64 p.B, .int .i64 p.N, .int .i64 p.G]] w fun e w' => e = .returned (.int .i64 p.chk) ∧ Below w.heap.size w w' := by
 obtain ⟨⟨ao, cap, rfl, o1, o2, o3, o4⟩, _⟩ := ho;have HO : Hid (Ol w ao p.l) := o4;have HL : Hid (p.l.length ≤ maxLen) := Nat.le_trans o1 o2;clear o1 o2 o3 o4;have HC : Hid (p.chk = if ((btw p.P 1 4 && btw p.S 1 4 && btw p.W 1 4) && knownB p.A && (btw p.B 1 16 && btw p.N 1 4 && btw p.G 8 64)) then chkI p.l else 140) := rfl;have HG : Hid (btw p.G 8 64 = (decide (8 ≤ p.G) && decide (p.G ≤ 64))) := rfl
 cases h0 : btw p.P 1 4
 ·rw [HC.out, h0];clear HC HG;go_in;go_wp2_with (go_at_call 55; refine (rwithin_walk _ _ _).mono ?_; simp only [h0]; rintro e w9 ⟨rfl, h9⟩; replace h9 := h9.symm; subst h9);go_ret;exact ⟨by simp, below_alloc _ _⟩
 cases h1 : btw p.S 1 4
 ·rw [HC.out, h0, h1];clear HC HG;go_in;go_wp2_with (go_at_call 55; refine (rwithin_walk _ _ _).mono ?_; simp only [h0, h1]; rintro e w9 ⟨rfl, h9⟩; replace h9 := h9.symm; subst h9);go_ret;exact ⟨by simp, below_alloc _ _⟩
 cases h2 : btw p.W 1 4
 ·rw [HC.out, h0, h1, h2];clear HC HG;go_in;go_wp2_with (go_at_call 55; refine (rwithin_walk _ _ _).mono ?_; simp only [h0, h1, h2]; rintro e w9 ⟨rfl, h9⟩; replace h9 := h9.symm; subst h9);go_ret;exact ⟨by simp, below_alloc _ _⟩
 cases h3 : knownB p.A
 ·rw [HC.out, h0, h1, h2, h3];clear HC HG;go_in;go_wp2_with (first | (go_at_call 55; refine (rwithin_walk _ _ _).mono ?_; simp only [h0, h1, h2]; rintro e w9 ⟨rfl, h9⟩; replace h9 := h9.symm; subst h9) | (go_at_call 56; refine (rknown_walk _ _).mono ?_; rw [h3]; rintro e w9 ⟨rfl, h9⟩; replace h9 := h9.symm; subst h9));go_ret;exact ⟨by simp, below_alloc _ _⟩
 cases h4 : btw p.B 1 16
 ·rw [HC.out, h0, h1, h2, h3, h4];clear HC HG;go_in;go_wp2_with (first | (go_at_call 55; refine (rwithin_walk _ _ _).mono ?_; simp only [h0, h1, h2, h4]; rintro e w9 ⟨rfl, h9⟩; replace h9 := h9.symm; subst h9) | (go_at_call 56; refine (rknown_walk _ _).mono ?_; rw [h3]; rintro e w9 ⟨rfl, h9⟩; replace h9 := h9.symm; subst h9));go_ret;exact ⟨by simp, below_alloc _ _⟩
 cases h5 : btw p.N 1 4
 ·rw [HC.out, h0, h1, h2, h3, h4, h5];clear HC HG;go_in;go_wp2_with (first | (go_at_call 55; refine (rwithin_walk _ _ _).mono ?_; simp only [h0, h1, h2, h4, h5]; rintro e w9 ⟨rfl, h9⟩; replace h9 := h9.symm; subst h9) | (go_at_call 56; refine (rknown_walk _ _).mono ?_; rw [h3]; rintro e w9 ⟨rfl, h9⟩; replace h9 := h9.symm; subst h9));go_ret;exact ⟨by simp, below_alloc _ _⟩
 by_cases g1 : p.G < 8
 ·have hg : btw p.G 8 64 = false := by rw [HG.out, decide_eq_false (by omega)]; rfl
  rw [HC.out, h0, h1, h2, h3, h4, h5, hg];clear HC HG;go_in;go_wp2_with (first | (go_at_call 55; refine (rwithin_walk _ _ _).mono ?_; simp only [h0, h1, h2, h4, h5]; rintro e w9 ⟨rfl, h9⟩; replace h9 := h9.symm; subst h9) | (go_at_call 56; refine (rknown_walk _ _).mono ?_; rw [h3]; rintro e w9 ⟨rfl, h9⟩; replace h9 := h9.symm; subst h9));go_ret;exact ⟨by simp, below_alloc _ _⟩
 by_cases g2 : 64 < p.G
 ·have hg : btw p.G 8 64 = false := by rw [HG.out, decide_eq_false (show ¬ p.G ≤ 64 by omega), Bool.and_false]
  rw [HC.out, h0, h1, h2, h3, h4, h5, hg];clear HC HG;go_in;go_wp2_with (first | (go_at_call 55; refine (rwithin_walk _ _ _).mono ?_; simp only [h0, h1, h2, h4, h5]; rintro e w9 ⟨rfl, h9⟩; replace h9 := h9.symm; subst h9) | (go_at_call 56; refine (rknown_walk _ _).mono ?_; rw [h3]; rintro e w9 ⟨rfl, h9⟩; replace h9 := h9.symm; subst h9));go_ret;exact ⟨by simp, below_alloc _ _⟩
 ·have hg : btw p.G 8 64 = true := by rw [HG.out, decide_eq_true (show p.G ≤ 64 by omega), decide_eq_true (by omega)]; rfl
  rw [HC.out, h0, h1, h2, h3, h4, h5, hg];clear HC HG;go_in;go_wp2_with (first | (go_at_call 55; refine (rwithin_walk _ _ _).mono ?_; simp only [h0, h1, h2, h4, h5]; rintro e w9 ⟨rfl, h9⟩; replace h9 := h9.symm; subst h9) | (go_at_call 56; refine (rknown_walk _ _).mono ?_; rw [h3]; rintro e w9 ⟨rfl, h9⟩; replace h9 := h9.symm; subst h9));refine (rcheck_walk HL.out (HO.out.below (below_alloc _ _))).mono ?_;rintro e w1 ⟨rfl, hB1⟩;go_wp2_with fail;go_ret;exact ⟨by simp, below_trans (below_alloc _ _) hB1⟩
theorem rnodes_walk (ho : Ov w ov p.l) : Calls Tryz.prog 57 #[.agg #[.int .i64 p.P, .int .i64 p.S, .int .i64 p.W, ov, .int .i64 p.A, .int .i64 p.B, .int .i64 p.N, .int .i64 p.G]] w fun e w' => e = .returned (.int .i64 p.nodes) ∧ Below w.heap.size w w' := by
 have HO : Hid (Ov w ov p.l) := ho;clear ho;have HN : Hid (p.nodes = if p.is then 1 + p.W + p.S else 0) := rfl
 cases hp : p.is
 ·have hc := Pn.chk_no hp;rw [HN.out, hp];go_in;go_wp2_with fail;refine (rpcheck_walk (HO.out.below (below_alloc _ _))).mono ?_;rintro e w1 ⟨rfl, hB1⟩;go_wp2_with fail;go_ret;exact ⟨rfl, below_trans (below_alloc _ _) hB1⟩
 ·have hc := Pn.chk_ok hp;rw [HN.out, hp];obtain ⟨_, ⟨s1, s2⟩, ⟨w1, w2⟩, _⟩ := Pn.is_num hp;go_in;go_wp2_with fail;refine (rpcheck_walk (HO.out.below (below_alloc _ _))).mono ?_;rw [hc];rintro e w1 ⟨rfl, hB1⟩;have HB1 : Hid (Below w.heap.size w w1) := below_trans (below_alloc _ _) hB1;obtain ⟨c0, c1, c2, c3, c4, c5, c6, c7⟩ := box_then hB1;clear hB1;go_wp2_with fail;go_ret;exact ⟨rfl, HB1.out⟩
theorem rkind_walk (n : Int) (ho : Ov w ov p.l) : Calls Tryz.prog 23 #[.agg #[.int .i64 p.P, .int .i64 p.S, .int .i64 p.W, ov, .int .i64 p.A, .int .i64 p.B, .int .i64 p.N, .int .i64 p.G], .int .i64 n] w fun e w' => e = .returned (.int .i64 (p.kind n)) ∧ Below w.heap.size w w' := by
 have HO : Hid (Ov w ov p.l) := ho;clear ho;have HN : Hid (p.kind n = if n < 0 ∨ p.nodes ≤ n then 0 else if n < 1 then 1 else if n < 1 + p.W then 2 else 3) := rfl;by_cases h0 : n < 0
 ·rw [HN.out, if_pos (.inl h0)];go_in;go_wp2_with fail;go_ret;exact ⟨rfl, below_alloc _ _⟩
 by_cases h1 : p.nodes ≤ n
 ·rw [HN.out, if_pos (.inr h1)];go_in;go_wp2_with fail;refine (rnodes_walk (HO.out.below (below_alloc _ _))).mono ?_;rintro e w1 ⟨rfl, hB1⟩;go_wp2_with fail;go_ret;exact ⟨rfl, below_trans (below_alloc _ _) hB1⟩
 have hp := kind_in h0 h1;have HP : Hid (p.is = true) := hp;obtain ⟨_, ⟨s1, s2⟩, ⟨w1, w2⟩, _⟩ := Pn.is_num hp;clear hp;rw [HN.out, if_neg (by omega)];clear HN;by_cases h2 : n < 1
 ·have h3 : n = 0 := by omega
  subst h3;rw [if_pos h2];go_in;go_wp2_with fail;refine (rnodes_walk (HO.out.below (below_alloc _ _))).mono ?_;rintro e w1 ⟨rfl, hB1⟩;go_wp2_with fail;go_ret;exact ⟨rfl, below_trans (below_alloc _ _) hB1⟩
 rw [if_neg h2];have h4 : ¬ n = 0 := by omega
 by_cases h3 : n < 1 + p.W
 ·rw [if_pos h3];have h5 : n ≤ p.W := by omega
  go_in;go_wp2_with fail;refine (rnodes_walk (HO.out.below (below_alloc _ _))).mono ?_;rintro e w1 ⟨rfl, hB1⟩;have HB1 : Hid (Below w.heap.size w w1) := below_trans (below_alloc _ _) hB1;obtain ⟨c0, c1, c2, c3, c4, c5, c6, c7⟩ := box_then hB1;clear hB1;go_wp2_with fail;go_ret;exact ⟨rfl, HB1.out⟩
 ·rw [if_neg h3];have h5 : ¬ n ≤ p.W := by omega
  go_in;go_wp2_with fail;refine (rnodes_walk (HO.out.below (below_alloc _ _))).mono ?_;rintro e w1 ⟨rfl, hB1⟩;have HB1 : Hid (Below w.heap.size w w1) := below_trans (below_alloc _ _) hB1;obtain ⟨c0, c1, c2, c3, c4, c5, c6, c7⟩ := box_then hB1;clear hB1;go_wp2_with fail;go_ret;exact ⟨rfl, HB1.out⟩
end
end
theorem eq_val (v : Vl) (w : World) : (Op.equalIn 9999 64 (.agg #[.bool v.h, .int .u64 v.b]) (.agg #[.bool v.h, .int .u64 v.b])).run Tryz.prog w = .ok true w := by
 have u0 := Tryz.underlying4;have u1 := Tryz.underlying40;have a0 := Tryz.isAgg4;have a1 := Tryz.isAgg40;have z0 := Tryz.sizeOf4;have z1 := Tryz.sizeOf40;have hS : Tryz.prog.underlying 64 = some (.struct (Tryz.prog.fieldsOf 64)) := by kernel_rfl
 have hp : Tryz.prog.stoodInHeld 64 = false := by kernel_rfl
 rw [show (9999 : Nat) = 9998 + 1 from rfl, run_equalIn_agg w 9998 64 _ _ hS hp];simp only [Program.fieldsOf, Tryz.underlying64];go_simp
theorem eq_pair (p : Pr) (w : World) : (Op.equalIn 10000 66 (.agg #[.int .u64 p.k, .bool p.v.h, .int .u64 p.v.b]) (.agg #[.int .u64 p.k, .bool p.v.h, .int .u64 p.v.b])).run Tryz.prog w = .ok true w := by
 have u1 := Tryz.underlying40;have a1 := Tryz.isAgg40;have a2 := Tryz.isAgg64;have z1 := Tryz.sizeOf40;have z2 := Tryz.sizeOf64;have hv := eq_val p.v;have hS : Tryz.prog.underlying 66 = some (.struct (Tryz.prog.fieldsOf 66)) := by kernel_rfl
 have hp : Tryz.prog.stoodInHeld 66 = false := by kernel_rfl
 rw [show (10000 : Nat) = 9999 + 1 from rfl, run_equalIn_agg w 9999 66 _ _ hS hp];simp only [Program.fieldsOf, Tryz.underlying66];go_simp
theorem neq_pair (p : Pr) (w : World) : (binOp .neq 66 (.agg #[.int .u64 p.k, .bool p.v.h, .int .u64 p.v.b]) (.agg #[.int .u64 p.k, .bool p.v.h, .int .u64 p.v.b])).run Tryz.prog w = .ok (.bool false) w := by
 rw [run_neq_struct, eq_pair]; rfl
theorem guard_pair : Tryz.prog.eqGuardType Tryz.prog.depth 66 = false := by kernel_rfl
theorem Qv.form {w : World} {v : Value} {l : List Pr} (h : Qv w v l) : ∃ ao cap, v = .slice ao l.length cap ∧ l.length ≤ maxLen ∧ Ql w ao l := by
 obtain ⟨⟨ao, cap, e, h1, h2, _, h4⟩, _⟩ := h;exact ⟨ao, cap, e, Nat.le_trans h1 h2, h4⟩
structure Dl (B : Nat) (w : World) (v : Value) (n : Nat) (vs : Nat → Value) (ls : Nat → List Pr) : Prop where
 row : w.ownsRow B 46 1 v n ((List.range n).map vs)
 own : ∀ i, i < n → w.ownsRow B 66 3 (vs i) (ls i).length (flatQ (ls i))
theorem info_pair : (Tryz.prog.info? 66).map (fun i => (i.zero, i.size, i.bytes)) = some (some (.agg #[.int .u64 0, .bool false, .int .u64 0]), 3, 24) := by kernel_rfl
theorem info_sp : (Tryz.prog.info? 46).map (fun i => (i.zero, i.size, i.bytes)) = some (some (.slice none 0 0), 1, 24) := by kernel_rfl
theorem own_qv {w : World} {B e : Nat} {v : Value} {l : List Pr} (h : w.ownsRow B e 3 v l.length (flatQ l)) (hok : okT l) : Qv w v l := by
 have hh := h;rcases h.2 with ⟨rfl, h0⟩ | ⟨g, cap, cur, rfl, hg, hp, hnc, hcm, hcs, htk⟩
 ·obtain rfl := List.eq_nil_of_length_eq_zero h0;exact ⟨⟨none, 0, rfl, Nat.le_refl _, by simp [maxLen], fun _ => rfl, fun i hi => by simp at hi⟩, by simp⟩
 ·have := mq_qv (own_mq hh) (Nat.le_refl _) hnc hcm hok;rwa [List.take_length] at this
theorem own_ne {w : World} {B B' e e' s s' n n' : Nat} {v v' : Value} {xs xs' : List Value} (h : w.ownsRow B e s v n xs) (h' : w.ownsRow B' e' s' v' n' xs') (hne : e ≠ e') : v.ownBlock = none ∨ v.ownBlock ≠ v'.ownBlock := by
 rcases h.2 with ⟨rfl, _⟩ | ⟨g, cap, cur, rfl, _, hp, _⟩
 ·exact .inl rfl
 ·rcases h'.2 with ⟨rfl, _⟩ | ⟨g', cap', cur', rfl, _, hp', _⟩
  ·exact .inr (by simp [Value.ownBlock])
  ·refine .inr ?_;intro he;simp [Value.ownBlock] at he;subst he;rw [hp] at hp';simp at hp';exact hne hp'.2
theorem Dl.below {B : Nat} {w w' : World} {v : Value} {n : Nat} {vs : Nat → Value} {ls : Nat → List Pr} (h : Dl B w v n vs ls) (hb : Below w.heap.size w w') : Dl B w' v n vs ls := by
 refine ⟨h.row.kept (grown_of_below hb) ?_, fun i hi => own3_below (h.own i hi) hb⟩
 cases hv : v.ownBlock
 ·exact Or.inl rfl
 ·exact Or.inr (by simp)
end Go.Proofs.YtombjgfajbhbbaaGreat
