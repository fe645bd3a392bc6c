/- Word, TakeWord and their references. -/
import Derived.Test.YtonnlhehbhiiiaaWt

namespace Go.Proofs.Ytonnlhehbhiiiaa

open Go.RowKit



theorem wdF_get (n x k : Nat) (hk : k < n) : (Wm.wdF n x)[k]? = some (x / 256 ^ k % 256) := by
  induction n generalizing x k with
  | zero => omega
  | succ n ih =>
    cases k with
    | zero => simp [Wm.wdF]
    | succ k =>
      simp only [Wm.wdF, List.getElem?_cons_succ]
      rw [ih (x / 256) k (by omega), Nat.div_div_eq_div_mul, Nat.pow_succ, Nat.mul_comm 256]


/-- k bytes of a word have been laid. -/
def wpre (x k : Nat) : List Nat := (Wm.wd x).take k ++ List.replicate (8 - k) 0


theorem wpre_len (x k : Nat) (hk : k ≤ 8) : (wpre x k).length = 8 := by
  unfold wpre; rw [List.length_append, List.length_take, List.length_replicate, Wm.wd_len]; omega


theorem wpre_zero (x : Nat) : wpre x 0 = List.replicate 8 0 := by simp [wpre]
theorem wpre_all (x : Nat) : wpre x 8 = Wm.wd x := by
  unfold wpre; rw [List.take_of_length_le (by rw [Wm.wd_len]; omega)]; simp


theorem wpre_set (x k : Nat) (hk : k < 8) : (wpre x k).set k (x / 256 ^ k % 256) = wpre x (k + 1) := by
  have hw := wdF_get 8 x k hk
  have hl : k < (Wm.wd x).length := by rw [Wm.wd_len]; exact hk
  have hget : (Wm.wd x)[k] = x / 256 ^ k % 256 := by
    have : (Wm.wd x)[k]? = some (x / 256 ^ k % 256) := hw
    rw [List.getElem?_eq_getElem hl] at this
    exact Option.some.inj this
  unfold wpre
  rw [List.set_append_right _ _ (by rw [List.length_take, Wm.wd_len]; omega), List.length_take, Wm.wd_len,
    show k - min k 8 = 0 by omega, show 8 - k = (8 - (k + 1)) + 1 by omega, List.replicate_succ, List.set_cons_zero,
    List.take_succ_eq_append_getElem hl, hget, List.append_assoc]
  rfl


def WordRel (x H : Nat) (w : World) (iv : Value) (wr : World) : Prop :=
  ∃ k : Nat, k ≤ 8 ∧ iv = .int .i64 k ∧ wr.ownsRow H 5 1 (.slice (some ⟨H, 0, none⟩) 8 8) 8 ((ib (wpre x k)).map (Value.int .u8)) ∧ Below H w wr


theorem pow256 (i : Nat) : (2 : Nat) ^ (8 * i) = 256 ^ i := by rw [Nat.pow_mul]


theorem wordrel_step {x H k : Nat} {w wr : World} (hk : k < 8) (hbel : Below H w wr)
    (hown : wr.ownsRow H 5 1 (.slice (some ⟨H, 0, none⟩) 8 8) 8 ((ib (wpre x k)).map (Value.int .u8))) :
    WordRel x H w (.int .i64 ((k : Int) + 1)) (wr.setCell ⟨H, k, none⟩ (.int .u8 ((x : Int) / 2 ^ (8 * k) % 256))) := by
  have hs := hown.stored k (.int .u8 ((x : Int) / 2 ^ (8 * k) % 256))
  refine ⟨k + 1, hk, rfl, ?_, hbel.setCell (Nat.le_refl _) _⟩
  have e : ((x : Int) / 2 ^ (8 * k) % 256) = ((x / 256 ^ k % 256 : Nat) : Int) := by
    rw [← pow256, Int.natCast_emod, Int.natCast_ediv, Int.natCast_pow]; rfl
  have e2 : ((ib (wpre x k)).map (Value.int .u8)).set k (.int .u8 ((x : Int) / 2 ^ (8 * k) % 256)) = (ib (wpre x (k + 1))).map (Value.int .u8) := by
    rw [← wpre_set x k hk, e]
    simp [ib, List.map_set]
  rw [← e2]
  exact hs.1


theorem wordrel_start {x : Nat} {w w1 : World} (hown : w1.ownsRow w.heap.size 5 1 (.slice (some ⟨w.heap.size, 0, none⟩) 8 8) 8 (madeCells (Value.int .u8 0).cells (8 * 1)).toList) (hg : w.grownBy w1 none) :
    WordRel x w.heap.size w (.int .i64 0) w1 := by
  refine ⟨0, by omega, rfl, ?_, (Below.refl _ _).grown hg (Nat.le_refl _) (by simp)⟩
  rw [wpre_zero]
  have e : (madeCells (Value.int .u8 0).cells (8 * 1)).toList = (ib (List.replicate 8 0)).map (Value.int .u8) := by
    show (madeCells #[Value.int .u8 0] 8).toList = _
    rw [toList_madeCells_one]; simp [ib]
  rw [← e]
  exact hown




/-- The reference's loop: what has been laid, and what is left. -/
def RWordRel (x H : Nat) (w : World) (xv v iv : Value) (wr : World) : Prop :=
  ∃ (y k : Nat), k ≤ 8 ∧ iv = .int .i64 k ∧ xv = .int .u64 y ∧ y = x / 256 ^ k ∧ wr.ownsRow H 5 1 v k ((ib ((Wm.wd x).take k)).map (Value.int .u8)) ∧ Below H w wr


theorem rwordrel_step {x H k y : Nat} {w wr w1 : World} {v v' : Value} {c : Int} (hk : k < 8) (hy : y = x / 256 ^ k) (hbel : Below H w wr) (hH : H ≤ wr.heap.size) (o : Obj)
    (hown : wr.ownsRow H 5 1 v k ((ib ((Wm.wd x).take k)).map (Value.int .u8)))
    (hown' : w1.ownsRow H 5 1 v' (k + 1) ((ib ((Wm.wd x).take k)).map (Value.int .u8) ++ [c].map (Value.int .u8))) (hg : (wr.alloc o).grownBy w1 v.ownBlock) (hc : c = (y : Int) % 256) :
    RWordRel x H w (.int .u64 ((y : Int) / 256)) v' (.int .i64 ((k : Int) + 1)) w1 := by
  refine ⟨y / 256, k + 1, hk, rfl, by congr 1, by rw [hy, Nat.div_div_eq_div_mul, Nat.pow_succ], ?_, hbel.trans (((below_alloc wr o).mono hH).trans (grown_below (hown.alloc o) hg (by simp; omega)))⟩
  have hl : k < (Wm.wd x).length := by rw [Wm.wd_len]; exact hk
  have hget : (Wm.wd x)[k] = y % 256 := by
    have : (Wm.wd x)[k]? = some (x / 256 ^ k % 256) := wdF_get 8 x k hk
    rw [List.getElem?_eq_getElem hl] at this
    rw [hy]
    exact Option.some.inj this
  rw [List.take_succ_eq_append_getElem hl, hget, ib_append, List.map_append]
  have e : ib [y % 256] = [c] := by subst hc; simp [ib]
  rw [e]
  exact hown'


set_option maxRecDepth 100000 in
set_option maxHeartbeats 1000000 in
theorem rword_walk (x : Nat) (hx : x < 18446744073709551616) (w : World) :
    Calls Try.prog 50 #[.int .u64 x] w fun e w' => ∃ v, e = .returned v ∧ w'.ownsRow w.heap.size 5 1 v 8 ((ib (Wm.wd x)).map (Value.int .u8)) ∧ Below w.heap.size w w' := by
  have HST : Hid (RWordRel x w.heap.size w (.int .u64 x) (.slice (some ⟨w.heap.size, 0, none⟩) 0 0) (.int .i64 0) (w.alloc (.cells #[] 5))) :=
    ⟨x, 0, by omega, rfl, rfl, by simp, World.ownsRow_made w #[] 0 (Nat.le_refl _) (by simp [maxLen]) rfl, below_alloc w _⟩
  have HX : Hid (x < 18446744073709551616) := hx
  clear hx
  go_enter Try.func50, Try.ntmps50
  go_wp2
  go_loopw [0, 3, 4] (fun xv v iv wr => RWordRel x w.heap.size w xv v iv wr) (fun _ _ iv _ => 8 - (intOf iv).toNat)
  case atStart => exact HST.out
  case round =>
    obtain ⟨y, k, hk, rfl, rfl, hy, hown, hbel⟩ := hrel
    have HY : Hid (y = x / 256 ^ k) := hy
    have hwr : IntKind.u64.wrap ((y : Int) / 256) = (y : Int) / 256 := wrap_u64_id (by omega) (by have := HX.out; have h2 : x / 256 ^ k ≤ x := Nat.div_le_self _ _; rw [← hy] at h2; omega)
    have hH : w.heap.size ≤ wr.heap.size := hbel.size
    clear hy
    by_cases hlt : (k : Int) < 8
    · go_wp2_with (at_builtin; refine wpList_append_sv (by rfl) (.tmp 10) (.tmp 14) 79 (by rfl) w.heap.size 5 .u8 1 Try.underlying79 info_u8 _ _ _ (by rfl) (hown.alloc _) _ [_] (by rfl) (sv_one .u8 _ _ _) (by simp [maxLen]; omega) (by simp; omega) (by simp; omega) ?_; intro v' w1 hown' hgrow)
      have R := rwordrel_step (by omega) HY.out hbel hH _ hown hown' hgrow (by omega)
      clear hown' hgrow
      go_wp2
      go_roundw
      case rel => exact R
      case measure => simp [intOf]; omega
    · obtain rfl : k = 8 := by omega
      have HO : Hid (wr.ownsRow w.heap.size 5 1 u3 8 ((ib (Wm.wd x)).map (Value.int .u8))) := by
        have := hown
        rwa [List.take_of_length_le (by rw [Wm.wd_len]; omega)] at this
      clear hown
      go_wp2
      go_ret
      exact ⟨_, rfl, HO.out, hbel⟩
end Go.Proofs.Ytonnlhehbhiiiaa


