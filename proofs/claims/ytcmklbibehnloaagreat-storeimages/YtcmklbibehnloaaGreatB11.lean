/- Contracts of the reader's has, value. -/
import Derived.Test.YtcmklbibehnloaaGreatB10
import Derived.Test.YtcmklbibehnloaaGreatB09
set_option maxRecDepth 100000
set_option maxHeartbeats 16000000
namespace Go.Proofs.YtcmklbibehnloaaGreat
open Go.RowKit
theorem unw_append (l r : List Nat) : Wm.unw (l ++ r) = Wm.unw l + 256 ^ l.length * Wm.unw r := by
 induction l with
 | nil => simp [Wm.unw]
 | cons c l ih =>
  simp only [List.cons_append, Wm.unw, ih, List.length_cons, Nat.pow_succ];rw [Nat.mul_add, Nat.mul_comm (256 ^ l.length) 256, Nat.mul_assoc];omega
theorem unw_take_succ {l : List Nat} {k c : Nat} (hk : k < l.length) (hc : l.getD k 0 = c) : Wm.unw (l.take (k + 1)) = Wm.unw (l.take k) + c * 256 ^ k := by
 have e : l.getD k 0 = l[k] := by simp [List.getD, List.getElem?_eq_getElem hk]
 rw [List.take_succ_eq_append_getElem hk, unw_append, List.length_take, Nat.min_eq_left (by omega), ← e, hc];simp [Wm.unw, Nat.mul_comm]
theorem wacc_or {x c k : Nat} (hx : x < 256 ^ k) (hk : k < 8) (hc : c < 256) :
  bits .or .u64 (x : Int) (IntKind.u64.wrap ((c : Int) * 2 ^ (8 * k))) = ((x + c * 256 ^ k : Nat) : Int) := by
 have hp : (256 : Nat) ^ k ≤ 256 ^ 7 := Nat.pow_le_pow_right (by omega) (by omega);have h1 : c * 256 ^ k ≤ 255 * 256 ^ 7 := Nat.mul_le_mul (by omega) hp;have h2 : c * 256 ^ k < 18446744073709551616 := Nat.lt_of_le_of_lt h1 (by decide);have h3 : x < 18446744073709551616 := Nat.lt_of_lt_of_le (Nat.lt_of_lt_of_le hx hp) (by decide)
 have e : (c : Int) * 2 ^ (8 * k) = ((c * 256 ^ k : Nat) : Int) := by
  rw [← pow256, Int.natCast_mul, Int.natCast_pow]; rfl
 rw [e, wrap_u64_id (by omega) (by generalize c * 256 ^ k = z at h2 ⊢; omega), bits_or_u64_nat x _ h3 h2];congr 1;rw [← pow256] at hx ⊢;rw [Nat.or_comm, Nat.mul_comm, ← Nat.two_pow_add_eq_or_of_lt hx];omega
def t2 (r : Nat × Nat) : Value := .tuple #[.int .u64 (r.1 : Nat), .int .i64 (r.2 : Nat)]
theorem t2_short {l : List Nat} (h : l.length < 8) : Ending.returned (.tuple #[.int .u64 0, .int .i64 3]) = .returned (t2 (Wm.takeW l)) := by
 unfold Wm.takeW; rw [if_pos h]; rfl
theorem t2_long {l : List Nat} {a : Int} (h : 8 ≤ l.length) (ha : a = (Wm.unw (l.take 8) : Nat)) : Ending.returned (.tuple #[.int .u64 a, .int .i64 0]) = .returned (t2 (Wm.takeW l)) := by
 unfold Wm.takeW; rw [if_neg (by omega), ha]; rfl
theorem takew_short (l : List Nat) (ao : Option Addr) (cap : Nat) (w : World) (h : l.length < 8) :
  Calls Tryz.prog 230 #[.slice ao l.length cap] w fun e w' => e = .returned (t2 (Wm.takeW l)) ∧ w' = w := by
 have h8 : (l.length : Int) < 8 := by omega
 go_in;go_wp2;go_ret2;exact ⟨t2_short h, rfl⟩
theorem takew_long (l : List Nat) (b off cap : Nat) (w : World) (h8 : 8 ≤ l.length)
  (hc : ∀ i, i < l.length → w.cell? ⟨b, off + i, none⟩ = some (.int .u8 ((l.getD i 0 : Nat) : Int))) (h256 : ∀ c ∈ l, c < 256) :
  Calls Tryz.prog 230 #[.slice (some ⟨b, off, none⟩) l.length cap] w fun e w' => e = .returned (t2 (Wm.takeW l)) ∧ w' = w := by
 have HC : Hid (∀ i, i < l.length → w.cell? ⟨b, off + i, none⟩ = some (.int .u8 ((l.getD i 0 : Nat) : Int))) := hc;have H256 := hidH h256;have hl8 : ¬ (l.length : Int) < 8 := by omega
 clear hc h256;go_in;go_wp2;go_loop [4, 9] (fun xv iv => ∃ k x : Nat, xv = .int .u64 x ∧ iv = .int .i64 k ∧ k ≤ 8 ∧ x = Wm.unw (l.take k)) (fun _ iv => 8 - (intOf iv).toNat)
 case atStart => exact ⟨0, 0, rfl, rfl, by omega, rfl⟩
 case round =>
  obtain ⟨k, x, rfl, rfl, hk, hx⟩ := hrel;have HX : Hid (x = Wm.unw (l.take k)) := hx;clear hx;by_cases hlt : (k : Int) < 8
  ·have hcell := HC.out k (by omega);obtain ⟨c, hcd⟩ : ∃ c, l.getD k 0 = c := ⟨_, rfl⟩;rw [hcd] at hcell;have HD : Hid (l.getD k 0 = c) := hcd;have HC2 : Hid (c < 256) := by show c < 256; rw [← hcd]; exact H256.out _ (by simp [List.getD, List.getElem?_eq_getElem (show k < l.length by omega)])
   have hkl : (k : Int) < (l.length : Int) := by omega
   have hci : (c : Int) < 256 := by have := HC2.out; omega
   have HLT : Hid (x < 256 ^ k) := by
    have h1 := Wm.unw_lt (l.take k) (fun d hd => H256.out d (List.mem_of_mem_take hd));rw [← HX.out, List.length_take, Nat.min_eq_left (by omega)] at h1;exact h1
   clear hcd;go_wp2_with fail;go_round
   case rel => exact ⟨k + 1, _, by rw [wacc_or HLT.out (by omega) HC2.out], by go_num, by omega, by rw [unw_take_succ (by omega) HD.out, HX.out]⟩
   case measure => simp [intOf]; omega
  ·obtain rfl : k = 8 := by omega
   go_wp2_with fail;go_ret2;exact ⟨t2_long h8 (by rw [HX.out]), rfl⟩
theorem takew_walk {w : World} {v : Value} {l : List Nat} (h : Bv w v l) :
  Calls Tryz.prog 230 #[v] w fun e w' => e = .returned (t2 (Wm.takeW l)) ∧ w' = w := by
 by_cases h8 : l.length < 8
 ·obtain ⟨⟨ao, cap, rfl, _⟩, _⟩ := h;rw [ib_len];exact takew_short l ao cap w h8
 ·rcases bv_cases h with ⟨rfl, _⟩ | ⟨b, off, cap, rfl, hp, h1, h2, h3⟩
  ·simp at h8
  ·exact takew_long l b off cap w (by omega) h3 h.2
theorem rtakew_short (l : List Nat) (ao : Option Addr) (cap : Nat) (w : World) (h : l.length < 8) :
  Calls Tryz.prog 231 #[.slice ao l.length cap] w fun e w' => e = .returned (t2 (Wm.takeW l)) ∧ w' = w := by
 have h8 : (l.length : Int) < 8 := by omega
 go_in;go_wp2;go_ret2;exact ⟨t2_short h, rfl⟩
theorem drop_take8 {l : List Nat} {j c : Nat} (h8 : 8 ≤ l.length) (hj : j < 8) (hc : l.getD j 0 = c) : (l.take 8).drop j = c :: (l.take 8).drop (j + 1) := by
 refine drop_cons (by rw [List.length_take]; omega) ?_;rw [← hc]; simp [List.getD, hj]
theorem rw_acc {x c : Nat} (hx : x * 256 + c < 18446744073709551616) : IntKind.u64.wrap (IntKind.u64.wrap ((x : Int) * 256) + (c : Int)) = ((x * 256 + c : Nat) : Int) := by
 rw [wrap_u64_id (z := (x : Int) * 256) (by omega) (by omega), wrap_u64_id (by omega) (by omega)];omega
theorem rtakew_long (l : List Nat) (b off cap : Nat) (w : World) (h8 : 8 ≤ l.length)
  (hc : ∀ i, i < l.length → w.cell? ⟨b, off + i, none⟩ = some (.int .u8 ((l.getD i 0 : Nat) : Int))) (h256 : ∀ c ∈ l, c < 256) :
  Calls Tryz.prog 231 #[.slice (some ⟨b, off, none⟩) l.length cap] w fun e w' => e = .returned (t2 (Wm.takeW l)) ∧ w' = w := by
 have HC : Hid (∀ i, i < l.length → w.cell? ⟨b, off + i, none⟩ = some (.int .u8 ((l.getD i 0 : Nat) : Int))) := hc;have H256 := hidH h256;have hl8 : ¬ (l.length : Int) < 8 := by omega
 clear hc h256;go_in;go_wp2;go_loop [4, 5] (fun xv iv => ∃ k x : Nat, xv = .int .u64 x ∧ iv = .int .i64 ((k : Int) - 1) ∧ k ≤ 8 ∧ x = Wm.unw ((l.take 8).drop k)) (fun _ iv => (intOf iv + 1).toNat)
 case atStart => exact ⟨8, 0, rfl, rfl, by omega, by rw [List.drop_eq_nil_of_le (by rw [List.length_take]; omega)]; rfl⟩
 case round =>
  obtain ⟨k, x, rfl, rfl, hk, hx⟩ := hrel;have HX : Hid (x = Wm.unw ((l.take 8).drop k)) := hx;clear hx;by_cases hlt : (1 : Int) ≤ (k : Int)
  ·obtain ⟨j, rfl⟩ : ∃ j, k = j + 1 := ⟨k - 1, by omega⟩;have hcell := HC.out j (by omega);obtain ⟨c, hcd⟩ : ∃ c, l.getD j 0 = c := ⟨_, rfl⟩;rw [hcd] at hcell;have HD : Hid (l.getD j 0 = c) := hcd;have hkl : (j : Int) < (l.length : Int) := by omega
   have hci : (c : Int) < 256 := by
    have : c < 256 := by rw [← hcd]; exact H256.out _ (by simp [List.getD, List.getElem?_eq_getElem (show j < l.length by omega)])
    omega
   have hjj : ((j + 1 : Nat) : Int) - 1 = (j : Int) := by omega
   have HU : Hid (x * 256 + c = Wm.unw ((l.take 8).drop j)) := by
    have := drop_take8 h8 (show j < 8 by omega) hcd;show _ = _;rw [this, Wm.unw, ← HX.out]; omega
   have HLT : Hid (x * 256 + c < 18446744073709551616) := by
    have h1 := Wm.unw_lt ((l.take 8).drop j) (fun d hd => H256.out d (List.mem_of_mem_take (List.mem_of_mem_drop hd)));rw [← HU.out, List.length_drop, List.length_take, Nat.min_eq_left (by omega)] at h1;have h2 : (256 : Nat) ^ (8 - j) ≤ 256 ^ 8 := Nat.pow_le_pow_right (by omega) (by omega);exact Nat.lt_of_lt_of_le h1 (Nat.le_trans h2 (by decide))
   clear hcd;go_wp2_with fail;go_round
   case rel => exact ⟨j, _, by rw [rw_acc HLT.out], by go_num, by omega, HU.out⟩
   case measure => simp [intOf]
  ·obtain rfl : k = 0 := by omega
   go_wp2_with fail;go_ret2;exact ⟨t2_long h8 (by rw [HX.out]; simp), rfl⟩
theorem rtakew_walk {w : World} {v : Value} {l : List Nat} (h : Bv w v l) :
  Calls Tryz.prog 231 #[v] w fun e w' => e = .returned (t2 (Wm.takeW l)) ∧ w' = w := by
 by_cases h8 : l.length < 8
 ·obtain ⟨⟨ao, cap, rfl, _⟩, _⟩ := h;rw [ib_len];exact rtakew_short l ao cap w h8
 ·rcases bv_cases h with ⟨rfl, _⟩ | ⟨b, off, cap, rfl, hp, h1, h2, h3⟩
  ·simp at h8
  ·exact rtakew_long l b off cap w (by omega) h3 h.2
def lastK (l : List Cl) : Option Nat := l.getLast?.map Cl.k
theorem lastK_snoc (q : List Cl) (c : Cl) : lastK (q ++ [c]) = some c.k := by simp [lastK]
theorem follows_at (n m k : Nat) (c : Cl) (b off cap : Nat) (w : World) (hn : n = m + 1) (hl : n ≤ cap) (hcap : cap ≤ maxLen) (h : CA w b (off + m * 6) c) :
  Calls Tryz.prog 190 #[.slice (some ⟨b, off, none⟩) n cap, .int .u64 k] w fun e w' => e = .returned (.bool (folB (some c.k) k)) ∧ w' = w := by
 unfold maxLen at hcap;have h1 : (n : Int) - 1 = (m : Int) := by omega
 have h2 : (m : Int) < (n : Int) := by omega
 have h3 : ((n : Int) == 0) = false := by simp; omega
 have h4 : (n : Int) ≤ 9223372036854775807 := by omega
 have h0 := h.c0;clear hn hcap hl;by_cases hk : c.k < k
 ·have e : folB (some c.k) k = true := by simp [folB, hk]
  have hk1 : (c.k : Int) < (k : Int) := by omega
  rw [e];go_in;go_wp2_with fail;go_ret;exact ⟨rfl, rfl⟩
 ·have e : folB (some c.k) k = false := by simp [folB]; omega
  have hk1 : ¬ (c.k : Int) < (k : Int) := by omega
  rw [e];go_in;go_wp2_with fail;go_ret;exact ⟨rfl, rfl⟩
theorem follows_void (ao : Option Addr) (cap k : Nat) (w : World) :
  Calls Tryz.prog 190 #[.slice ao 0 cap, .int .u64 k] w fun e w' => e = .returned (.bool true) ∧ w' = w := by
 go_in;go_wp2_with fail;go_ret;exact ⟨rfl, rfl⟩
theorem follows_walk {w : World} {v : Value} {l : List Cl} (h : Cv w v l) (k : Nat) :
  Calls Tryz.prog 190 #[v, .int .u64 k] w fun e w' => e = .returned (.bool (folB (lastK l) k)) ∧ w' = w := by
 rcases cv_cases h with ⟨rfl, ao, cap, rfl⟩ | ⟨b, off, cap, rfl, hp, h1, h2, h3⟩
 ·exact follows_void ao cap k w
 ·obtain ⟨q, c, rfl⟩ : ∃ q c, l = q ++ [c] := ⟨l.dropLast, l.getLast (List.length_pos_iff.1 hp), (List.dropLast_concat_getLast _).symm⟩;rw [lastK_snoc];have := h3 q.length (by simp);rw [List.getElem_append_right (Nat.le_refl _)] at this;simp only [Nat.sub_self, List.getElem_singleton] at this;exact follows_at _ q.length k c b off cap w (by simp) h1 h2 this
theorem plain_walk (v : Vl) (w : World) :
  Calls Tryz.prog 217 #[.agg #[.bool v.h, .int .u64 v.b]] w fun e w' => e = .returned (.bool (plainB v)) ∧ Below w.heap.size w w' := by
 obtain ⟨h, b⟩ := v
 cases h
 ·by_cases hb : b = 0
  ·subst hb;go_in;go_wp2_with fail;go_ret;exact ⟨rfl, below_alloc _ _⟩
  ·have e : plainB ⟨false, b⟩ = false := by simp [plainB, hb]
   have h1 : ((b : Int) == 0) = false := by simp; omega
   rw [e];go_in;go_wp2_with fail;go_ret;exact ⟨rfl, below_alloc _ _⟩
 ·go_in;go_wp2_with fail;go_ret;exact ⟨rfl, below_alloc _ _⟩
theorem writable_walk (c : Cl) (w : World) :
  Calls Tryz.prog 191 #[.agg #[.int .u64 c.k, .bool c.p.h, .int .u64 c.p.b, .bool c.c.h, .int .u64 c.c.b, .int .i64 c.n]] w fun e w' => e = .returned (.bool (writB c)) ∧ Below w.heap.size w w' := by
 have HC : Hid (CB (w.alloc (Obj.cells #[.int .u64 c.k, .bool c.p.h, .int .u64 c.p.b, .bool c.c.h, .int .u64 c.c.b, .int .i64 c.n] 114)) w.heap.size c) := cb_new w c;have HB : Hid (Below w.heap.size w (w.alloc (Obj.cells #[.int .u64 c.k, .bool c.p.h, .int .u64 c.p.b, .bool c.c.h, .int .u64 c.c.b, .int .i64 c.n] 114))) := below_alloc _ _;by_cases h1 : 0 ≤ c.n
 ·by_cases h2 : c.n ≤ 1099511627776
  ·cases hp : plainB c.p
   ·have e : writB c = false := by simp [writB, hp]
    rw [e];clear e;go_in;go_wp2_with fail;refine (plain_walk c.p _).mono ?_;rw [hp];rintro e w2 ⟨rfl, hB2⟩;go_wp2_with fail;go_ret;exact ⟨rfl, below_trans HB.out hB2⟩
   ·have e : writB c = plainB c.c := by simp [writB, hp, h1, h2]
    rw [e];clear e;go_in;go_wp2_with fail;refine (plain_walk c.p _).mono ?_;rw [hp];rintro e w2 ⟨rfl, hB2⟩;obtain ⟨_, _, _, d3, d4, _, _⟩ := HC.out.keep hB2;go_wp2_with fail;refine (plain_walk c.c _).mono ?_;rintro e w3 ⟨rfl, hB3⟩;go_wp2_with fail;go_ret;exact ⟨rfl, below_trans HB.out (below_trans hB2 hB3)⟩
  ·have e : writB c = false := by simp [writB]; omega
   rw [e];go_in;go_wp2_with fail;go_ret;exact ⟨rfl, HB.out⟩
 ·have e : writB c = false := by simp [writB]; omega
  rw [e];go_in;go_wp2_with fail;go_ret;exact ⟨rfl, HB.out⟩
theorem valueBytes_walk (v : Vl) (w : World) :
  Calls Tryz.prog 218 #[.agg #[.bool v.h, .int .u64 v.b]] w fun e w' => ∃ u, e = .returned u ∧ Bv w' u (valB v) ∧ Below w.heap.size w w' := by
 obtain ⟨h, b⟩ := v
 cases h
 ·go_in;go_wp2_with fail;go_ret;exact ⟨_, rfl, Bv.nil _, below_alloc _ _⟩
 ·go_in;go_wp2_with (go_at_call 236; refine (word_walk b _).mono ?_; rintro e w2 ⟨v, rfl, hown, hB2⟩);go_ret;have hb := own_bv hown (wd_lt b);exact ⟨v, rfl, by simpa [valB] using hb, below_trans (below_alloc _ _) hB2⟩
section
theorem ch_set (w : World) (g i : Nat) (u : Value) : Ch (fun x => x = g) w (w.setCell ⟨g, i, none⟩ u) := Ch.of_grown (grown_set w g i u) (fun x hx => by cases hx; rfl)
theorem Ch.cell {D : Nat → Prop} {w w' : World} {p : Addr} {u : Value} (h : Ch D w w') (hp : w.cell? p = some u) (hd : ¬ D p.block) : w'.cell? p = some u := by
 have := h.block p.block (cell_lt hp) hd;have e : w'.cell? p = w.cell? p := by simp only [World.cell?, this]
 rw [e, hp]
theorem Bv.set {w : World} {v : Value} {l : List Nat} (h : Bv w v l) {p : Addr} {u : Value} (hp : w.cell? p = some u) (hu : ∀ x, u ≠ .int .u8 x) (u' : Value) : Bv (w.setCell p u') v l := by
 obtain ⟨⟨ao, cap, e, h1, h2, h3, h4⟩, h5⟩ := h;refine ⟨⟨ao, cap, e, h1, h2, h3, fun i hi => ?_⟩, h5⟩;obtain ⟨b, off, e1, e2⟩ := h4 i hi;refine ⟨b, off, e1, ?_⟩;rw [World.cell?_setCell_other _ _ _ _ (by rintro rfl; rw [e2] at hp; exact hu _ (Option.some.inj hp).symm)];exact e2
structure RD (M : Nat) (w : World) (R : Nat) (v : Value) (l : List Nat) (f : Nat) : Prop where
 c0 : w.cell? ⟨R, 0, none⟩ = some v
 c1 : w.cell? ⟨R, 1, none⟩ = some (.int .i64 f)
 z : ∀ j, w.frozen? ⟨R, j, none⟩ = false
 bv : Bv w v l
 m : ∀ x, v.ownBlock = some x → x < M
theorem own_cut0 {ao : Option Addr} {n c n' c' : Nat} : (Value.slice ao n c).ownBlock = (Value.slice ao n' c').ownBlock := by rcases ao with _ | ⟨b, o, _ | s⟩ <;> rfl
theorem own_cutm {ao : Option Addr} {k n c n' c' : Nat} : (Value.slice (ao.map fun a => a.add k) n c).ownBlock = (Value.slice ao n' c').ownBlock := by
 cases ao with
 | none => rfl
 | some a => simp only [Option.map_some, Value.ownBlock, Addr.add]; split <;> rfl
variable {M : Nat}

theorem bv_notu8 {w : World} {v : Value} {l : List Nat} (h : Bv w v l) : ∀ x, v ≠ .int .u8 x := by
 obtain ⟨⟨ao, cap, rfl, _⟩, _⟩ := h;intro x e; cases e
theorem RD.set1 {w : World} {R : Nat} {v : Value} {l : List Nat} {f : Nat} (h : RD M w R v l f) (e : Nat) : RD M (w.setCell ⟨R, 1, none⟩ (.int .i64 e)) R v l e :=
 ⟨by rw [World.cell?_setCell_other _ _ _ _ (by rintro ⟨⟩)]; exact h.c0, by simp [go_sem, h.c1], fun j => by simpa [go_sem] using h.z j, h.bv.set h.c1 (by intro x e; cases e) _, h.m⟩
theorem RD.set0 {w : World} {R : Nat} {v v' : Value} {l l' : List Nat} {f : Nat} (h : RD M w R v l f) (hb : Bv w v' l') (hm : v'.ownBlock = v.ownBlock) : RD M (w.setCell ⟨R, 0, none⟩ v') R v' l' f :=
 ⟨by simp [go_sem, h.c0], by rw [World.cell?_setCell_other _ _ _ _ (by rintro ⟨⟩)]; exact h.c1, fun j => by simpa [go_sem] using h.z j, hb.set h.c0 (bv_notu8 h.bv) _, fun x hx => h.m x (by rw [← hm]; exact hx)⟩
theorem RD.below {w w' : World} {R : Nat} {v : Value} {l : List Nat} {f : Nat} (h : RD M w R v l f) (hb : Below w.heap.size w w') : RD M w' R v l f := by
 have hR : R < w.heap.size := cell_lt h.c0;exact ⟨by rw [hb.cell (p := ⟨R, 0, none⟩) hR]; exact h.c0, by rw [hb.cell (p := ⟨R, 1, none⟩) hR]; exact h.c1, fun j => by rw [hb.frozen (p := ⟨R, j, none⟩) hR]; exact h.z j, h.bv.below hb, h.m⟩
theorem RD.ch {D : Nat → Prop} {w w' : World} {R : Nat} {v : Value} {l : List Nat} {f : Nat} (h : RD M w R v l f) (hc : Ch D w w') (hd : ¬ D R) (hM : ∀ x, D x → M ≤ x) : RD M w' R v l f := by
 have hz : ∀ j, w'.frozen? ⟨R, j, none⟩ = w.frozen? ⟨R, j, none⟩ := fun j => by
  have := hc.block R (cell_lt h.c0) hd;simp only [World.frozen?, this]
 refine ⟨hc.cell h.c0 hd, hc.cell h.c1 hd, fun j => by rw [hz j]; exact h.z j, ?_, h.m⟩;obtain ⟨⟨ao, cap, e, h1, h2, h3, h4⟩, h5⟩ := h.bv;refine ⟨⟨ao, cap, e, h1, h2, h3, fun i hi => ?_⟩, h5⟩;obtain ⟨b, off, e1, e2⟩ := h4 i hi;have hb : b < M := h.m b (by rw [e, e1]; rfl);exact ⟨b, off, e1, hc.cell e2 (fun hx => by have := hM b hx; omega)⟩
def refu (g : Bool) (e f : Nat) : Nat := if g = true ∧ f = 0 then e else f
theorem refu_no (e f : Nat) : refu false e f = f := by simp [refu]
theorem refu_yes (e : Nat) : refu true e 0 = e := by simp [refu]
theorem refu_old {g : Bool} {e f : Nat} (h : f ≠ 0) : refu g e f = f := by simp [refu, h]
theorem refuse_walk {w : World} {R : Nat} {v : Value} {l : List Nat} {f : Nat} (h : RD M w R v l f) (g : Bool) (e : Nat) :
  Calls Tryz.prog 166 #[.pointer (some ⟨R, 0, none⟩), .bool g, .int .i64 e] w fun en w' => en = .returned (.tuple #[]) ∧ RD M w' R v l (refu g e f) ∧ Ch (fun x => x = R) w w' := by
 have HR : Hid (RD M w R v l f) := h;have c1 := h.c1;have z1 := h.z 1;clear h
 cases g
 ·rw [refu_no];go_in;go_wp2_with fail;refine bodyPost_end (results_none rfl _ _ _) rfl ?_;exact ⟨rfl, HR.out, Ch.refl _ _⟩
 ·by_cases hf : f = 0
  ·subst hf;rw [refu_yes];go_in;go_wp2_with fail;refine bodyPost_end (results_none rfl _ _ _) rfl ?_;exact ⟨rfl, HR.out.set1 e, ch_set _ _ _ _⟩
  ·rw [refu_old hf];have hfi : ((f : Int) == 0) = false := by rw [beq_eq_false_iff_ne]; omega
   go_in;go_wp2_with fail;refine bodyPost_end (results_none rfl _ _ _) rfl ?_;exact ⟨rfl, HR.out, Ch.refl _ _⟩
theorem cut_any {w : World} {v : Value} {l : List Nat} {ao : Option Addr} {cap : Nat} (h : Bv w v l) (hv : v = .slice ao l.length cap) (n : Nat) (hn : n ≤ l.length) (hc : ¬ cap = n) : Bv w (.slice (ao.map fun a => a.add n) (l.length - n) (cap - n)) (l.drop n) := by
 subst hv;have := h.cut n l.length hn (Nat.le_refl _) False (by simp [hc]);rw [List.take_of_length_le (by rw [List.length_drop]; omega)] at this;simpa using this
theorem cut_end {w : World} {ao : Option Addr} {l : List Nat} {p : Nat} (hp : l.length ≤ p) : Bv w (.slice ao 0 0) (l.drop p) := by
 rw [List.drop_eq_nil_of_le hp];exact ⟨⟨ao, 0, rfl, Nat.le_refl _, by simp [maxLen], fun _ => rfl, fun i hi => by simp [ib] at hi⟩, by simp⟩
theorem bv_le {w : World} {ao : Option Addr} {n cap : Nat} {l : List Nat} (h : Bv w (.slice ao n cap) l) : n = l.length ∧ l.length ≤ cap ∧ cap ≤ maxLen := by
 obtain ⟨⟨ao', cap', e, h1, h2, _⟩, _⟩ := h;rw [ib_len] at e h1
 cases e
 exact ⟨rfl, h1, h2⟩
theorem t3_litB {r : Nat × Nat × Nat} {a b c : Nat} (h : r = (a, b, c)) : t3 r = .tuple #[.int .u64 a, .int .i64 b, .int .i64 c] := by subst h; rfl
theorem t2_litB {r : Nat × Nat} {a b : Nat} (h : r = (a, b)) : t2 r = .tuple #[.int .u64 a, .int .i64 b] := by subst h; rfl
def numF (l : List Nat) (f : Nat) : Nat := refu (decide ((Wm.take l).2.2 ≠ 0)) (Wm.take l).2.2 f
def numL (l : List Nat) : List Nat := l.drop (Wm.take l).2.1
theorem number_walk {w : World} {R : Nat} {v : Value} {l : List Nat} {f : Nat} (h : RD M w R v l f) :
  Calls Tryz.prog 165 #[.pointer (some ⟨R, 0, none⟩)] w fun e w' => e = .returned (.int .u64 ((Wm.take l).1 : Nat)) ∧ (∃ v', RD M w' R v' (numL l) (numF l f)) ∧ Ch (fun x => x = R) w w' := by
 have HR : Hid (RD M w R v l f) := h
 obtain ⟨ao, n, cap, hv⟩ : ∃ a n q, v = .slice a n q := by
  obtain ⟨⟨ao, cap, e, _⟩, _⟩ := h.bv;exact ⟨ao, _, cap, e⟩
 subst hv;obtain ⟨hn, hle, hmx⟩ := bv_le h.bv;subst hn;have c0 := h.c0;have HLE : Hid (l.length ≤ cap) := hle;unfold maxLen at hmx;have hci : (cap : Int) ≤ 9223372036854775807 := by omega
 have hli : (l.length : Int) ≤ (cap : Int) := by omega
 have hT := Wm.take_form l h.bv.2;clear h hle hmx;rcases hT with ⟨e, ht, h34⟩ | ⟨x, n, ht, hx, hn1, hn2, hn3⟩
 ·have e1 : (Wm.take l).1 = 0 := by rw [ht]
  have e2 : numL l = l.drop 0 := by unfold numL; rw [ht]
  have e3 : numF l f = refu true e f := by
   unfold numF; rw [ht]; have : e ≠ 0 := by omega
   simp [this]
  have HT : Hid (Wm.take l = (0, 0, e)) := ht;rw [e1, e2, e3];have hne : ((e : Int) != 0) = true := by rw [bne_iff_ne]; omega
  clear e1 e2 e3 ht h34;go_in;go_wp2_with fail;refine (take_walk HR.out.bv).mono ?_;rw [t3_litB HT.out];rintro e9 w9 ⟨rfl, rfl⟩;go_wp2_with fail;refine (refuse_walk HR.out true e).mono ?_;rintro e9 w2 ⟨rfl, hR2, hC2⟩;have HR2 := hidH hR2;have HC2 : Hid (Ch (fun x => x = R) w9 w2) := hC2;have d0 := hR2.c0;have z0 := hR2.z 0;clear hR2 hC2 c0;by_cases hc0 : cap = 0
  ·have hl0 : l.length = 0 := by have := HLE.out; omega
   have HL0 : Hid (l.length ≤ 0) := by show _ ≤ _; omega
   subst hc0;rw [hl0] at d0 ⊢;go_wp2_with fail;go_ret;exact ⟨rfl, ⟨_, HR2.out.set0 (cut_end HL0.out) (own_cut0)⟩, HC2.out.self (ch_set _ _ _ _)⟩
  ·go_wp2_with fail;go_ret;have hz : Bv w2 (.slice (ao.map fun a => a.add 0) l.length cap) (l.drop 0) := by simpa using cut_any HR2.out.bv rfl 0 (Nat.zero_le _) hc0
   first
    | exact ⟨rfl, ⟨_, HR2.out.set0 hz own_cutm⟩, HC2.out.self (ch_set _ _ _ _)⟩
    | exact ⟨rfl, ⟨_, HR2.out.set0 (v' := .slice ao l.length cap) (by simpa using HR2.out.bv) own_cut0⟩, HC2.out.self (ch_set _ _ _ _)⟩
 ·have e1 : (Wm.take l).1 = x := by rw [ht]
  have e2 : numL l = l.drop n := by unfold numL; rw [ht]
  have e3 : numF l f = refu false 0 f := by unfold numF; rw [ht]; rfl
  have HT : Hid (Wm.take l = (x, n, 0)) := ht;rw [e1, e2, e3];have HN : Hid (n ≤ l.length) := hn2;have hni : (n : Int) ≤ (l.length : Int) := by omega
  have hnc : (n : Int) ≤ (cap : Int) := by omega
  clear e1 e2 e3 ht hn3 hn1 hn2;go_in;go_wp2_with fail;refine (take_walk HR.out.bv).mono ?_;rw [t3_litB HT.out];rintro e9 w9 ⟨rfl, rfl⟩;go_wp2_with fail;refine (refuse_walk HR.out false 0).mono ?_;rintro e9 w2 ⟨rfl, hR2, hC2⟩;have HR2 := hidH hR2;have HC2 : Hid (Ch (fun x => x = R) w9 w2) := hC2;have d0 := hR2.c0;have z0 := hR2.z 0;clear hR2 hC2 c0;by_cases hcp : cap = n
  ·have hlp : l.length = n := by have := HLE.out; have := HN.out; omega
   have HLP : Hid (l.length ≤ n) := by show _ ≤ _; omega
   subst hcp;go_wp2_with fail;go_ret;exact ⟨rfl, ⟨_, HR2.out.set0 (cut_end HLP.out) own_cut0⟩, HC2.out.self (ch_set _ _ _ _)⟩
  ·go_wp2_with fail;go_ret;exact ⟨rfl, ⟨_, HR2.out.set0 (cut_any HR2.out.bv rfl n HN.out hcp) own_cutm⟩, HC2.out.self (ch_set _ _ _ _)⟩
end
section
variable {M : Nat}

theorem Ch.frozen {D : Nat → Prop} {w w' : World} {p : Addr} {u : Value} (h : Ch D w w') (hp : w.cell? p = some u) (hd : ¬ D p.block) {j : Nat} : w'.frozen? ⟨p.block, j, none⟩ = w.frozen? ⟨p.block, j, none⟩ := by
 have := h.block p.block (cell_lt hp) hd;simp only [World.frozen?, this]
structure VBB (w : World) (b : Nat) (v : Vl) : Prop where
 c0 : w.cell? ⟨b, 0, none⟩ = some (.bool v.h)
 c1 : w.cell? ⟨b, 1, none⟩ = some (.int .u64 v.b)
 z : ∀ j, w.frozen? ⟨b, j, none⟩ = false
theorem vb_newB (w : World) (v : Vl) : VBB (w.alloc (Obj.cells #[.bool v.h, .int .u64 v.b] 53)) w.heap.size v := by
 constructor <;> simp [go_sem]
theorem VBB.ch {D : Nat → Prop} {w w' : World} {b : Nat} {v : Vl} (h : VBB w b v) (hc : Ch D w w') (hd : ¬ D b) : VBB w' b v :=
 ⟨hc.cell h.c0 hd, hc.cell h.c1 hd, fun j => by rw [hc.frozen h.c0 hd]; exact h.z j⟩
theorem RD.setB {w : World} {R B j : Nat} {v u : Value} {l : List Nat} {f : Nat} (h : RD M w R v l f) (hne : B ≠ R) (hp : w.cell? ⟨B, j, none⟩ = some u) (hu : ∀ x, u ≠ .int .u8 x) (u' : Value) : RD M (w.setCell ⟨B, j, none⟩ u') R v l f :=
 ⟨by rw [World.cell?_setCell_other _ _ _ _ (by rintro ⟨⟩; exact hne rfl)]; exact h.c0, by rw [World.cell?_setCell_other _ _ _ _ (by rintro ⟨⟩; exact hne rfl)]; exact h.c1, fun k => by simpa [go_sem] using h.z k, h.bv.set hp hu _, h.m⟩
theorem RD.setV {w : World} {R B : Nat} {v : Value} {a : Vl} {l : List Nat} {f : Nat} (h : RD M w R v l f) (hv : VBB w B a) (hne : B ≠ R) (y : Bool) (x : Int) : RD M ((w.setCell ⟨B, 0, none⟩ (.bool y)).setCell ⟨B, 1, none⟩ (.int .u64 x)) R v l f :=
 (h.setB hne hv.c0 (by intro x e; cases e) _).setB hne (u := .int .u64 a.b) (by rw [World.cell?_setCell_other _ _ _ _ (by rintro ⟨⟩)]; exact hv.c1) (by intro x e; cases e) _
theorem ch_set2 {w0 w : World} {R B : Nat} (h : Ch (fun x => x = R) w0 w) (hB : w0.heap.size ≤ B) (i j : Nat) (u v : Value) : Ch (fun x => x = R) w0 ((w.setCell ⟨B, i, none⟩ u).setCell ⟨B, j, none⟩ v) :=
 (h.trans (ch_set _ _ _ _) (fun x hx => by subst hx; exact .inr hB)).trans (ch_set _ _ _ _) (fun x hx => by subst hx; exact .inr hB)
def hasX (l : List Nat) : Nat := l.headD 0
def hasL (l : List Nat) : List Nat := l.drop 1
def hasF (l : List Nat) (f : Nat) : Nat := match l with
 | [] => refu true 3 f
 | c :: _ => refu (decide (3 < c)) 4 f
def valX (t : Bool) (l : List Nat) : Vl := if t = true ∧ 8 ≤ l.length then ⟨true, Wm.unw (l.take 8)⟩ else noV
def valL (t : Bool) (l : List Nat) : List Nat := if t = true ∧ 8 ≤ l.length then l.drop 8 else l
def valFB (t : Bool) (l : List Nat) (f : Nat) : Nat := if t = true ∧ l.length < 8 then refu true 3 f else f
theorem has_walkB {w : World} {R : Nat} {v : Value} {l : List Nat} {f : Nat} (h : RD M w R v l f) :
  Calls Tryz.prog 200 #[.pointer (some ⟨R, 0, none⟩)] w fun e w' => e = .returned (.int .u8 (hasX l : Nat)) ∧ (∃ v', RD M w' R v' (hasL l) (hasF l f)) ∧ Ch (fun x => x = R) w w' := by
 have HR : Hid (RD M w R v l f) := h;have c0 := h.c0;rcases bv_cases h.bv with ⟨rfl, ao, cap, rfl⟩ | ⟨b, off, cap, rfl, hp, h1, h2, h3⟩
 ·clear h;go_in;go_wp2_with fail;refine (refuse_walk HR.out true 3).mono ?_;rintro e9 w2 ⟨rfl, hR2, hC2⟩;go_wp2_with fail;go_ret;exact ⟨rfl, ⟨_, hR2⟩, hC2⟩
 ·have h256 := h.bv.2;clear h
  cases l with
  | nil => simp at hp
  | cons c r =>
   have hb0 : w.cell? ⟨b, off, none⟩ = some (.int .u8 (c : Nat)) := by have h := h3 0 (by simp); rw [Nat.add_zero] at h; exact h
   have HB0 : Hid (w.cell? ⟨b, off, none⟩ = some (.int .u8 (c : Nat))) := hb0;have hc256 : c < 256 := h256 c (by simp);rw [List.length_cons] at *;unfold maxLen at h2;have hci : (cap : Int) ≤ 9223372036854775807 := by omega
   have hcl : ((r.length : Int) + 1) ≤ (cap : Int) := by omega
   have hp1 : (0 : Int) < (r.length : Int) + 1 := by omega
   have HLE := hidH h1;have hl0 : ((r.length : Int) + 1 == 0) = false := by rw [beq_eq_false_iff_ne]; omega
   clear h1 h2 h3 hp h256;have HX : Hid (hasF (c :: r) f = refu (decide (3 < c)) 4 f) := rfl
   have main : ∀ g : Bool, g = decide ((3 : Int) < (c : Int)) → Calls Tryz.prog 200 #[.pointer (some ⟨R, 0, none⟩)] w fun e w' => e = .returned (.int .u8 (c : Nat)) ∧ (∃ v', RD M w' R v' r (refu g 4 f)) ∧ Ch (fun x => x = R) w w' := by
    intro g hg
    cases g
    ·have hg3 : ¬ (3 : Int) < (c : Int) := by simpa using hg.symm
     clear hg HX;go_in;go_wp2_with fail;refine (refuse_walk HR.out false 4).mono ?_;rintro e9 w2 ⟨rfl, hR2, hC2⟩;have HR2 := hidH hR2;have HC2 : Hid (Ch (fun x => x = R) w w2) := hC2;have d0 := hR2.c0;have z0 := hR2.z 0;clear hR2 hC2 c0 hb0;by_cases hc1 : cap = 1
     ·have hr0 : r = [] := List.eq_nil_of_length_eq_zero (by have := HLE.out; omega);subst hc1 hr0;go_wp2_with fail;go_ret;exact ⟨rfl, ⟨_, HR2.out.set0 (cut_end (l := []) (p := 0) (by simp)) rfl⟩, HC2.out.self (ch_set _ _ _ _)⟩
     ·go_wp2_with fail;go_ret;have hz := cut_any HR2.out.bv rfl 1 (by simp) hc1;exact ⟨rfl, ⟨_, HR2.out.set0 (by simpa [Addr.add] using hz) rfl⟩, HC2.out.self (ch_set _ _ _ _)⟩
    ·have hg3 : (3 : Int) < (c : Int) := by simpa using hg.symm
     clear hg HX;go_in;go_wp2_with fail;refine (refuse_walk HR.out true 4).mono ?_;rintro e9 w2 ⟨rfl, hR2, hC2⟩;have HR2 := hidH hR2;have HC2 : Hid (Ch (fun x => x = R) w w2) := hC2;have d0 := hR2.c0;have z0 := hR2.z 0;clear hR2 hC2 c0 hb0;by_cases hc1 : cap = 1
     ·have hr0 : r = [] := List.eq_nil_of_length_eq_zero (by have := HLE.out; omega);subst hc1 hr0;go_wp2_with fail;go_ret;exact ⟨rfl, ⟨_, HR2.out.set0 (cut_end (l := []) (p := 0) (by simp)) rfl⟩, HC2.out.self (ch_set _ _ _ _)⟩
     ·go_wp2_with fail;go_ret;have hz := cut_any HR2.out.bv rfl 1 (by simp) hc1;exact ⟨rfl, ⟨_, HR2.out.set0 (by simpa [Addr.add] using hz) rfl⟩, HC2.out.self (ch_set _ _ _ _)⟩
   rw [HX.out];exact main (decide (3 < c)) (by congr 1; simp only [eq_iff_iff]; omega)
theorem value_walk {w : World} {R : Nat} {v : Value} {l : List Nat} {f : Nat} (h : RD M w R v l f) (t : Bool) :
  Calls Tryz.prog 201 #[.pointer (some ⟨R, 0, none⟩), .bool t] w fun e w' => e = .returned (.agg #[.bool (valX t l).h, .int .u64 (valX t l).b]) ∧ (∃ v', RD M w' R v' (valL t l) (valFB t l f)) ∧ Ch (fun x => x = R) w w' := by
 have HR : Hid (RD M w R v l f) := h;have HV0 : Hid (VBB (w.alloc (Obj.cells #[.bool false, .int .u64 0] 53)) w.heap.size noV) := vb_newB w noV;have HNR : Hid (w.heap.size ≠ R) := by have := cell_lt h.c0; show _ ≠ _; simp only at this; omega
 have HRA : Hid (RD M (w.alloc (Obj.cells #[.bool false, .int .u64 0] 53)) R v l f) := h.below (below_alloc _ _)
 cases t
 ·clear h;have e1 : valX false l = noV := by unfold valX; rw [if_neg (by simp)]
  have e2 : valL false l = l := by unfold valL; rw [if_neg (by simp)]
  have e3 : valFB false l f = f := by unfold valFB; rw [if_neg (by simp)]
  rw [e1, e2, e3];go_in;go_wp2_with fail;refine bodyPost_ret (by simp [results, Tryz.results201, go_sem, noV]) rfl ⟨rfl, ?_⟩;exact ⟨⟨_, HRA.out⟩, Ch.of_below (below_alloc _ _)⟩
 ·obtain ⟨ao, n, cap, hv⟩ : ∃ a n q, v = .slice a n q := by
   obtain ⟨⟨ao, cap, e, _⟩, _⟩ := h.bv;exact ⟨ao, _, cap, e⟩
  subst hv;obtain ⟨hn, hle, hmx⟩ := bv_le h.bv;subst hn;clear h;have HLE : Hid (l.length ≤ cap) := hle;unfold maxLen at hmx;have hci : (cap : Int) ≤ 9223372036854775807 := by omega
  have hli : (l.length : Int) ≤ (cap : Int) := by omega
  clear hle hmx;have c0 := HRA.out.c0;by_cases h8 : l.length < 8
  ·have e1 : valX true l = noV := by unfold valX; rw [if_neg (by omega)]
   have e2 : valL true l = l := by unfold valL; rw [if_neg (by omega)]
   have e3 : valFB true l f = refu true 3 f := by unfold valFB; rw [if_pos ⟨rfl, h8⟩]
   have HT : Hid (Wm.takeW l = (0, 3)) := if_pos h8;rw [e1, e2, e3];clear e1 e2 e3 h8;go_in;go_wp2_with fail;refine (takew_walk HRA.out.bv).mono ?_;rw [t2_litB HT.out];rintro e9 w9 ⟨rfl, hw9⟩;have HRB : Hid (RD M w9 R (.slice ao l.length cap) l f) := by show RD _ _ _ _ _ _; rw [hw9]; exact HRA.out
   have HVB : Hid (VBB w9 w.heap.size noV) := by show VBB _ _ _; rw [hw9]; exact HV0.out
   have HCB : Hid (Ch (fun x => x = R) w w9) := by show Ch _ _ _; rw [hw9]; exact Ch.of_below (below_alloc _ _)
   clear hw9 c0;go_wp2_with fail;refine (refuse_walk HRB.out true 3).mono ?_;rintro e9 w2 ⟨rfl, hR2, hC2⟩;have HR2 := hidH hR2;have HV2 : Hid (VBB w2 w.heap.size noV) := HVB.out.ch hC2 HNR.out;have HC2 : Hid (Ch (fun x => x = R) w w2) := HCB.out.self hC2;obtain ⟨y0, y1, yz⟩ := HV2.out;have z0 := yz 0;have z1 := yz 1;clear hR2 hC2;go_wp2_with fail;refine bodyPost_ret (by simp [results, Tryz.results201, go_sem, y0, y1, noV]) rfl ⟨rfl, ?_⟩;exact ⟨⟨_, HR2.out.setV HV2.out HNR.out _ _⟩, ch_set2 HC2.out (Nat.le_refl _) _ _ _ _⟩
  ·have e1 : valX true l = ⟨true, Wm.unw (l.take 8)⟩ := by unfold valX; rw [if_pos ⟨rfl, by omega⟩]
   have e2 : valL true l = l.drop 8 := by unfold valL; rw [if_pos ⟨rfl, by omega⟩]
   have e3 : valFB true l f = f := by unfold valFB; rw [if_neg (by omega)]
   obtain ⟨X, hX⟩ : ∃ X, Wm.unw (l.take 8) = X := ⟨_, rfl⟩;have HT : Hid (Wm.takeW l = (X, 0)) := by show _ = _; rw [← hX]; exact if_neg h8
   rw [e1, e2, e3, hX];have H8 : Hid (8 ≤ l.length) := by show _ ≤ _; omega
   have h8i : (8 : Int) ≤ (l.length : Int) := by omega
   have h8c : (8 : Int) ≤ (cap : Int) := by omega
   clear e1 e2 e3 h8 hX;go_in;go_wp2_with fail;refine (takew_walk HRA.out.bv).mono ?_;rw [t2_litB HT.out];rintro e9 w9 ⟨rfl, hw9⟩;have HRB : Hid (RD M w9 R (.slice ao l.length cap) l f) := by show RD _ _ _ _ _ _; rw [hw9]; exact HRA.out
   have HVB : Hid (VBB w9 w.heap.size noV) := by show VBB _ _ _; rw [hw9]; exact HV0.out
   have HCB : Hid (Ch (fun x => x = R) w w9) := by show Ch _ _ _; rw [hw9]; exact Ch.of_below (below_alloc _ _)
   clear hw9 c0;have d0 := HRB.out.c0;have dz := HRB.out.z 0
   obtain ⟨b, off, rfl⟩ : ∃ b off, ao = some ⟨b, off, none⟩ := by
    rcases bv_cases HRB.out.bv with ⟨h0, _⟩ | ⟨b, off, cap', e, _⟩
    ·have := H8.out; rw [h0] at this; simp at this
    ·cases e; exact ⟨b, off, rfl⟩
   by_cases hc8 : cap = 8
   ·have hl8 : l.length = 8 := by have := HLE.out; have := H8.out; omega
    have HL8 : Hid (l.length ≤ 8) := by show _ ≤ _; omega
    have HB8 : Hid (Bv w9 (.slice (some ⟨b, off, none⟩) (l.length - 8) 0) (l.drop 8)) := by show Bv _ _ _; rw [hl8]; exact cut_end HL8.out
    subst hc8;clear hl8;go_upto_region 8 with fail
    have HR2 : Hid (RD M (w9.setCell ⟨R, 0, none⟩ (.slice (some ⟨b, off, none⟩) (l.length - 8) 0)) R (.slice (some ⟨b, off, none⟩) (l.length - 8) 0) (l.drop 8) f) := HRB.out.set0 HB8.out rfl;have HC2 : Hid (Ch (fun x => x = R) w (w9.setCell ⟨R, 0, none⟩ (.slice (some ⟨b, off, none⟩) (l.length - 8) 0))) := HCB.out.self (ch_set _ _ _ _);have HV2 : Hid (VBB (w9.setCell ⟨R, 0, none⟩ (.slice (some ⟨b, off, none⟩) (l.length - 8) 0)) w.heap.size noV) := HVB.out.ch (ch_set _ _ _ _) HNR.out;generalize w9.setCell ⟨R, 0, none⟩ (.slice (some ⟨b, off, none⟩) (l.length - 8) 0) = w3 at HR2 HC2 HV2 ⊢;obtain ⟨y0, y1, yz⟩ := HV2.out;have z0 := yz 0;have z1 := yz 1;clear d0 dz;go_wp2_with fail;refine bodyPost_ret (by simp [results, Tryz.results201, go_sem, y0, y1]) rfl ⟨rfl, ?_⟩;exact ⟨⟨_, HR2.out.setV HV2.out HNR.out _ _⟩, ch_set2 HC2.out (Nat.le_refl _) _ _ _ _⟩
   ·have HB8 : Hid (Bv w9 (.slice (some ⟨b, off + 8, none⟩) (l.length - 8) (cap - 8)) (l.drop 8)) := by
     have := cut_any HRB.out.bv rfl 8 H8.out hc8;have e : (some (⟨b, off, none⟩ : Addr)).map (fun a => a.add 8) = some ⟨b, off + 8, none⟩ := by simp [WideShapes.add_plain]
     rw [e] at this;exact this
    go_upto_region 8 with fail
    have HR2 : Hid (RD M (w9.setCell ⟨R, 0, none⟩ (.slice (some ⟨b, off + 8, none⟩) (l.length - 8) (cap - 8))) R (.slice (some ⟨b, off + 8, none⟩) (l.length - 8) (cap - 8)) (l.drop 8) f) := HRB.out.set0 HB8.out rfl;have HC2 : Hid (Ch (fun x => x = R) w (w9.setCell ⟨R, 0, none⟩ (.slice (some ⟨b, off + 8, none⟩) (l.length - 8) (cap - 8)))) := HCB.out.self (ch_set _ _ _ _);have HV2 : Hid (VBB (w9.setCell ⟨R, 0, none⟩ (.slice (some ⟨b, off + 8, none⟩) (l.length - 8) (cap - 8))) w.heap.size noV) := HVB.out.ch (ch_set _ _ _ _) HNR.out;generalize w9.setCell ⟨R, 0, none⟩ (.slice (some ⟨b, off + 8, none⟩) (l.length - 8) (cap - 8)) = w3 at HR2 HC2 HV2 ⊢;obtain ⟨y0, y1, yz⟩ := HV2.out;have z0 := yz 0;have z1 := yz 1;clear d0 dz;go_wp2_with fail;refine bodyPost_ret (by simp [results, Tryz.results201, go_sem, y0, y1]) rfl ⟨rfl, ?_⟩;exact ⟨⟨_, HR2.out.setV HV2.out HNR.out _ _⟩, ch_set2 HC2.out (Nat.le_refl _) _ _ _ _⟩
end
end Go.Proofs.YtcmklbibehnloaaGreat
