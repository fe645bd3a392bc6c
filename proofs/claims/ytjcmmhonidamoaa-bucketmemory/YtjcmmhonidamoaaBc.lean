/- Contracts of bucket's follows, plain, writable, valueBytes. -/
import Derived.Test.YtjcmmhonidamoaaBb
import Derived.Test.YtjcmmhonidamoaaWx
import Derived.Test.YtjcmmhonidamoaaWj
import Derived.Deep.RegionHeld3
import Derived.Deep.DeepCutAuto
namespace Go.Proofs.Ytjcmmhonidamoaa
open Go.RowKit

def lastK (l : List Cl) : Option Nat := l.getLast?.map Cl.k
theorem lastK_nil : lastK [] = none := rfl
theorem lastK_snoc (q : List Cl) (c : Cl) : lastK (q ++ [c]) = some c.k := by simp [lastK]

theorem follows_at (n m k : Nat) (c : Cl) (b off cap : Nat) (w : World) (hn : n = m + 1) (hl : n ≤ cap) (hcap : cap ≤ maxLen) (h : CA w b (off + m * 6) c) :
    Calls Try.prog 23 #[.slice (some ⟨b, off, none⟩) n cap, .int .u64 k] w fun e w' => e = .returned (.bool (folB (some c.k) k)) ∧ w' = w := by
  unfold maxLen at hcap
  have h1 : (n : Int) - 1 = (m : Int) := by omega
  have h2 : (m : Int) < (n : Int) := by omega
  have h3 : ((n : Int) == 0) = false := by simp; omega
  have h4 : (n : Int) ≤ 9223372036854775807 := by omega
  have h0 := h.c0
  clear hn hcap hl
  by_cases hk : c.k < k
  · have e : folB (some c.k) k = true := by simp [folB, hk]
    have hk1 : (c.k : Int) < (k : Int) := by omega
    rw [e]
    go_enter Try.func23, Try.ntmps23
    go_wp2_with fail
    go_ret
    exact ⟨rfl, rfl⟩
  · have e : folB (some c.k) k = false := by simp [folB]; omega
    have hk1 : ¬ (c.k : Int) < (k : Int) := by omega
    rw [e]
    go_enter Try.func23, Try.ntmps23
    go_wp2_with fail
    go_ret
    exact ⟨rfl, rfl⟩

theorem follows_void (ao : Option Addr) (cap k : Nat) (w : World) :
    Calls Try.prog 23 #[.slice ao 0 cap, .int .u64 k] w fun e w' => e = .returned (.bool true) ∧ w' = w := by
  go_enter Try.func23, Try.ntmps23
  go_wp2_with fail
  go_ret
  exact ⟨rfl, rfl⟩

theorem follows_walk {w : World} {v : Value} {l : List Cl} (h : Cv w v l) (k : Nat) :
    Calls Try.prog 23 #[v, .int .u64 k] w fun e w' => e = .returned (.bool (folB (lastK l) k)) ∧ w' = w := by
  rcases cv_cases h with ⟨rfl, ao, cap, rfl⟩ | ⟨b, off, cap, rfl, hp, h1, h2, h3⟩
  · exact follows_void ao cap k w
  · obtain ⟨q, c, rfl⟩ : ∃ q c, l = q ++ [c] := ⟨l.dropLast, l.getLast (List.length_pos_iff.1 hp), (List.dropLast_concat_getLast _).symm⟩
    rw [lastK_snoc]
    have := h3 q.length (by simp)
    rw [List.getElem_append_right (Nat.le_refl _)] at this
    simp only [Nat.sub_self, List.getElem_singleton] at this
    exact follows_at _ q.length k c b off cap w (by simp) h1 h2 this

theorem plain_walk (v : Vl) (w : World) :
    Calls Try.prog 37 #[.agg #[.bool v.h, .int .u64 v.b]] w fun e w' => e = .returned (.bool (plainB v)) ∧ Below w.heap.size w w' := by
  obtain ⟨h, b⟩ := v
  cases h
  · by_cases hb : b = 0
    · subst hb
      go_enter Try.func37, Try.ntmps37
      go_wp2_with fail
      go_ret
      exact ⟨rfl, below_alloc _ _⟩
    · have e : plainB ⟨false, b⟩ = false := by simp [plainB, hb]
      have h1 : ((b : Int) == 0) = false := by simp; omega
      rw [e]
      go_enter Try.func37, Try.ntmps37
      go_wp2_with fail
      go_ret
      exact ⟨rfl, below_alloc _ _⟩
  · go_enter Try.func37, Try.ntmps37
    go_wp2_with fail
    go_ret
    exact ⟨rfl, below_alloc _ _⟩

set_option maxHeartbeats 1000000 in
theorem writable_walk (c : Cl) (w : World) :
    Calls Try.prog 24 #[.agg #[.int .u64 c.k, .bool c.p.h, .int .u64 c.p.b, .bool c.c.h, .int .u64 c.c.b, .int .i64 c.n]] w fun e w' => e = .returned (.bool (writB c)) ∧ Below w.heap.size w w' := by
  have HC : Hid (CB (w.alloc (Obj.cells #[.int .u64 c.k, .bool c.p.h, .int .u64 c.p.b, .bool c.c.h, .int .u64 c.c.b, .int .i64 c.n] 37)) w.heap.size c) := cb_new w c
  have HB : Hid (Below w.heap.size w (w.alloc (Obj.cells #[.int .u64 c.k, .bool c.p.h, .int .u64 c.p.b, .bool c.c.h, .int .u64 c.c.b, .int .i64 c.n] 37))) := below_alloc _ _
  by_cases h1 : 0 ≤ c.n
  · by_cases h2 : c.n ≤ 1099511627776
    · cases hp : plainB c.p
      · have e : writB c = false := by simp [writB, hp]
        rw [e]
        clear e
        go_enter Try.func24, Try.ntmps24
        go_wp2_with fail
        refine (plain_walk c.p _).mono ?_
        rw [hp]
        rintro e w2 ⟨rfl, hB2⟩
        go_wp2_with fail
        go_ret
        exact ⟨rfl, below_trans HB.out hB2⟩
      · have e : writB c = plainB c.c := by simp [writB, hp, h1, h2]
        rw [e]
        clear e
        go_enter Try.func24, Try.ntmps24
        go_wp2_with fail
        refine (plain_walk c.p _).mono ?_
        rw [hp]
        rintro e w2 ⟨rfl, hB2⟩
        obtain ⟨_, _, _, d3, d4, _, _⟩ := HC.out.keep hB2
        go_wp2_with fail
        refine (plain_walk c.c _).mono ?_
        rintro e w3 ⟨rfl, hB3⟩
        go_wp2_with fail
        go_ret
        exact ⟨rfl, below_trans HB.out (below_trans hB2 hB3)⟩
    · have e : writB c = false := by simp [writB]; omega
      rw [e]
      go_enter Try.func24, Try.ntmps24
      go_wp2_with fail
      go_ret
      exact ⟨rfl, HB.out⟩
  · have e : writB c = false := by simp [writB]; omega
    rw [e]
    go_enter Try.func24, Try.ntmps24
    go_wp2_with fail
    go_ret
    exact ⟨rfl, HB.out⟩

theorem valueBytes_walk (v : Vl) (w : World) :
    Calls Try.prog 39 #[.agg #[.bool v.h, .int .u64 v.b]] w fun e w' => ∃ u, e = .returned u ∧ Bv w' u (valB v) ∧ Below w.heap.size w w' := by
  obtain ⟨h, b⟩ := v
  cases h
  · go_enter Try.func39, Try.ntmps39
    go_wp2_with fail
    go_ret
    exact ⟨_, rfl, Bv.nil _, below_alloc _ _⟩
  · go_enter Try.func39, Try.ntmps39
    go_wp2_with (go_at_call 44; refine (word_walk b _).mono ?_; rintro e w2 ⟨v, rfl, hown, hB2⟩)
    go_ret
    have hb := own_bv hown (wd_lt b)
    exact ⟨v, rfl, by simpa [valB] using hb, below_trans (below_alloc _ _) hB2⟩
end Go.Proofs.Ytjcmmhonidamoaa
