/- Contracts of bucket's follows, plain, writable, valueBytes. -/
import Derived.Test.YtofkhgokfdpdiabGreatB10
import Derived.Test.YtofkhgokfdpdiabGreatB02
import Derived.Test.YtofkhgokfdpdiabGreatB07
import Derived.Test.YtofkhgokfdpdiabGreatB06
import Derived.Deep.RegionHeld3
import Derived.Deep.DeepCutAuto
set_option maxRecDepth 100000
set_option maxHeartbeats 16000000
namespace Go.Proofs.YtofkhgokfdpdiabGreat
section
open Go.RowKit

def part (ls : List (List Nat)) (k : Nat) : List (List Nat) := ls.take k ++ List.replicate (ls.length - k) []
theorem make_rows {q : Nat} (hq : q ≤ 64) : ∀ wx : World, (Instr.makeSlice 87 (.int .i64 q) (.int .i64 q)).run Tryz.prog wx = .ok (.slice (some ⟨wx.heap.size, 0, none⟩) q q) (wx.alloc (.cells (madeCells #[.slice none 0 0] (q * 1)) 78)) := fun wx => by
 obtain ⟨i0, hi0, hz0, hz1, hz2⟩ := info_partsV info_row
 have := run_make (P := Tryz.prog) wx 87 78 i0 (.slice none 0 0) Tryz.underlying87 hi0 hz0 .i64 .i64 q q (by omega) (Int.le_refl _) (by rw [hz2]; omega) (by omega)
 rw [hz1] at this
 simp only [Int.toNat_natCast] at this
 exact this
theorem made_at {q i : Nat} (hi : i < q) : (madeCells #[.slice none 0 0] (q * 1))[i]? = some (.slice none 0 0) := by simp [madeCells, hi, Nat.mod_one]
theorem bk_rep (q i : Nat) : bk (List.replicate q []) i = [] := by unfold bk; rw [List.getD_eq_getElem?_getD, List.getElem?_replicate]; split <;> rfl
theorem made_gr (E : Nat → Prop) (w : World) {q : Nat} (hq : q ≤ 64) {Z : Array Value} (hZ : Z = madeCells #[.slice none 0 0] (q * 1)) : Gr E (w.alloc (.cells Z 78)) w.heap.size q (List.replicate q []) := by
 subst hZ
 refine ⟨⟨_, heap_alloc_new w _, by rw [size_madeCells]; omega, fun i hi => ?_⟩, by simp, by simp [maxLen]; omega⟩
 rw [List.length_replicate] at hi
 exact ⟨_, made_at hi, by rw [bk_rep]; exact Oc.nil _, fun x hx => by cases hx⟩
end
section
open Go.RowKit

section

variable {base : Nat} {w w' : World} {v v' u : Value} {ls : List (List Nat)} {b : List Nat}

end
end
section
open Go.RowKit
end
section
open Go.RowKit

structure Dk where
  bl : List (List Nat)
  down : Bool
  left : Int
  rd : Nat
  wr : Nat
structure Dk.ok (S : Dk) : Prop where
  n1 : 1 ≤ S.bl.length
  n64 : S.bl.length ≤ 64
  len : ∀ b ∈ S.bl, b.length ≤ 1024
  byt : ∀ b ∈ S.bl, ∀ c ∈ b, c < 256
  l0 : -1 ≤ S.left
  l1 : S.left < 9223372036854775808
def hd (gp cap : Nat) (S : Dk) : Array Value := #[.slice (some ⟨gp, 0, none⟩) S.bl.length cap, .bool S.down, .int .i64 S.left, .int .i64 S.rd, .int .i64 S.wr]
structure DM (T : TypeId) (D : Nat → Prop) (w : World) (sb gp cap : Nat) (S : Dk) : Prop where
  head : w.heap[sb]? = some (.cells (hd gp cap S) T (0, 0))
  row : Gr (fun x => D x ∧ x ≠ sb) w gp cap S.bl
  a1 : gp ≠ sb
  d1 : D sb
  d2 : D gp
  dl : ∀ x, D x → x < w.heap.size
def Dsk (T : TypeId) (D : Nat → Prop) (w : World) (v : Value) (S : Dk) : Prop := ∃ sb gp cap, v = .pointer (some ⟨sb, 0, none⟩) ∧ DM T D w sb gp cap S ∧ S.ok
section

variable {T : TypeId} {D : Nat → Prop} {w w' : World} {v : Value} {sb gp cap : Nat} {S : Dk}

theorem DM.keep (h : DM T D w sb gp cap S) (hk : ∀ x, D x → w'.heap[x]? = w.heap[x]?) (hs : w.heap.size ≤ w'.heap.size) : DM T D w' sb gp cap S :=
  ⟨by rw [hk _ h.d1]; exact h.head, h.row.keep (hk _ h.d2) (fun x hx _ _ => hk x hx.1), h.a1, h.d1, h.d2, fun x hx => Nat.lt_of_lt_of_le (h.dl x hx) hs⟩
theorem Dsk.keep (h : Dsk T D w v S) (hk : ∀ x, D x → w'.heap[x]? = w.heap[x]?) (hs : w.heap.size ≤ w'.heap.size) : Dsk T D w' v S := by
  obtain ⟨sb, gp, cap, e, h1, h2⟩ := h
  exact ⟨sb, gp, cap, e, h1.keep hk hs, h2⟩
theorem Dsk.lt (h : Dsk T D w v S) {x : Nat} (hx : D x) : x < w.heap.size := by
  obtain ⟨sb, gp, cap, e, h1, h2⟩ := h
  exact h1.dl x hx
theorem Dsk.good (h : Dsk T D w v S) : S.ok := by
  obtain ⟨sb, gp, cap, e, h1, h2⟩ := h
  exact h2
theorem DM.below (h : DM T D w sb gp cap S) (hb : Below w.heap.size w w') : DM T D w' sb gp cap S := h.keep (fun x hx => hb.block x (h.dl x hx)) hb.size
theorem Dsk.below (h : Dsk T D w v S) (hb : Below w.heap.size w w') : Dsk T D w' v S := h.keep (fun x hx => hb.block x (h.lt hx)) hb.size
theorem Dsk.ch {E : Nat → Prop} (h : Dsk T D w v S) (hc : Ch E w w') (hE : ∀ x, D x → ¬ E x) : Dsk T D w' v S := h.keep (fun x hx => hc.block x (h.lt hx) (hE x hx)) hc.size
theorem DM.cell (h : DM T D w sb gp cap S) (i : Nat) : w.cell? ⟨sb, i, none⟩ = (hd gp cap S)[i]? := cell_of_row w sb i _ _ (0, 0) h.head
theorem DM.c0 (h : DM T D w sb gp cap S) : w.cell? ⟨sb, 0, none⟩ = some (.slice (some ⟨gp, 0, none⟩) S.bl.length cap) := by rw [h.cell]; rfl
theorem DM.c1 (h : DM T D w sb gp cap S) : w.cell? ⟨sb, 1, none⟩ = some (.bool S.down) := by rw [h.cell]; rfl
theorem DM.c2 (h : DM T D w sb gp cap S) : w.cell? ⟨sb, 2, none⟩ = some (.int .i64 S.left) := by rw [h.cell]; rfl
theorem DM.c3 (h : DM T D w sb gp cap S) : w.cell? ⟨sb, 3, none⟩ = some (.int .i64 S.rd) := by rw [h.cell]; rfl
theorem DM.c4 (h : DM T D w sb gp cap S) : w.cell? ⟨sb, 4, none⟩ = some (.int .i64 S.wr) := by rw [h.cell]; rfl
theorem DM.soft (h : DM T D w sb gp cap S) (i : Nat) : w.frozen? ⟨sb, i, none⟩ = false := by simp [World.frozen?, h.head]
theorem DM.put (h : DM T D w sb gp cap S) (i : Nat) (u : Value) {S' : Dk} (hb : S'.bl = S.bl) (hc : (hd gp cap S).setIfInBounds i u = hd gp cap S') : DM T D (w.setCell ⟨sb, i, none⟩ u) sb gp cap S' := by
  refine ⟨by rw [set_row h.head, hc], ?_, h.a1, h.d1, h.d2, fun x hx => by have := h.dl x hx; simpa [go_sem] using this⟩
  rw [hb]
  exact h.row.keep (set_other i u h.a1) (fun x hx _ _ => set_other i u hx.2)
theorem ch_put (i : Nat) (u : Value) (hd : D sb) : Ch D w (w.setCell ⟨sb, i, none⟩ u) := Ch.of_grown (grown_set w sb i u) (fun x hx => by cases hx; exact hd)
theorem Ch.self {w1 w2 w3 : World} (h : Ch D w1 w2) (k : Ch D w2 w3) : Ch D w1 w3 := h.trans k (fun _ hx => .inl hx)
end

def refI (S : Dk) (i : Int) : Int := if S.down = true then 80 else if i < 0 ∨ (S.bl.length : Int) ≤ i then 81 else 0
def readL (S : Dk) (i : Int) : List Nat := if refI S i = 0 then bk S.bl i.toNat else []
def readS (S : Dk) (i : Int) : Dk := if refI S i = 0 then { S with rd := S.rd + 1 } else S
def offS (S : Dk) : Dk := { S with down := true, left := -1 }
def onS (S : Dk) : Dk := { S with down := false, left := -1 }
def cutS (S : Dk) (n : Int) : Dk := { S with left := if n < 0 then -1 else n }
def decL (x : Int) : Int := if x = -1 then -1 else x - 1
def putS (S : Dk) (i : Nat) (b : List Nat) : Dk := { S with bl := S.bl.set i b, left := decL S.left, wr := S.wr + 1 }
def writeI (S : Dk) (i : Int) (b : List Nat) : Int := if refI S i ≠ 0 then refI S i else if 1024 < b.length then 6 else if S.left = 0 then 80 else 0
def writeS (S : Dk) (i : Int) (b : List Nat) : Dk := if refI S i ≠ 0 then S else if 1024 < b.length then S else if S.left = 0 then offS S else putS S i.toNat b
theorem ref_ok {S : Dk} {i : Int} (h : refI S i = 0) : S.down = false ∧ ∃ k : Nat, i = k ∧ k < S.bl.length := by
  unfold refI at h
  split at h
  · omega
  · rename_i hd
    split at h
    · omega
    · rename_i hi
      exact ⟨by simpa using hd, i.toNat, by omega, by omega⟩
theorem ok_off {S : Dk} (h : S.ok) : (offS S).ok := ⟨h.n1, h.n64, h.len, h.byt, Int.le_refl _, by show (-1 : Int) < _; omega⟩
theorem ok_on {S : Dk} (h : S.ok) : (onS S).ok := ⟨h.n1, h.n64, h.len, h.byt, Int.le_refl _, by show (-1 : Int) < _; omega⟩
theorem ok_cut {S : Dk} (h : S.ok) {n : Int} (hn : n < 9223372036854775808) : (cutS S n).ok := by
  refine ⟨h.n1, h.n64, h.len, h.byt, ?_, ?_⟩
  · show -1 ≤ (if n < 0 then (-1 : Int) else n); split <;> omega
  · show (if n < 0 then (-1 : Int) else n) < _; split <;> omega
theorem ok_rd {S : Dk} (h : S.ok) (n : Nat) : ({ S with rd := n } : Dk).ok := ⟨h.n1, h.n64, h.len, h.byt, h.l0, h.l1⟩
theorem ok_putD {S : Dk} (h : S.ok) (i : Nat) {b : List Nat} (hb : b.length ≤ 1024) (hc : ∀ c ∈ b, c < 256) : (putS S i b).ok := by
  refine ⟨by simpa [putS] using h.n1, by simpa [putS] using h.n64, ?_, ?_, ?_, ?_⟩
  · intro x hx
    rcases List.mem_or_eq_of_mem_set hx with h1 | h1
    · exact h.len x h1
    · rw [h1]; exact hb
  · intro x hx
    rcases List.mem_or_eq_of_mem_set hx with h1 | h1
    · exact h.byt x h1
    · rw [h1]; exact hc
  · have := h.l0
    show -1 ≤ decL S.left
    unfold decL; split <;> omega
  · have := h.l1
    show decL S.left < _
    unfold decL; split <;> omega
section

variable {T : TypeId} {D : Nat → Prop} {w w' : World} {v : Value} {sb gp cap : Nat} {S : Dk}

theorem refuses_walk (h : DM T D w sb gp cap S) (hok : S.ok) (i : Int) : Calls Tryz.prog 131 #[.pointer (some ⟨sb, 0, none⟩), .int .i64 i] w fun e w' => e = .returned (.int .i64 (refI S i)) ∧ w' = w := by
  have c0 := h.c0
  have c1 := h.c1
  have h64 := hok.n64
  clear h hok
  cases hd : S.down
  · rw [hd] at c1
    by_cases h0 : i < 0
    · have HL : Hid (refI S i = 81) := by show _ = _; unfold refI; rw [hd, if_neg (by simp), if_pos (.inl h0)]
      rw [HL.out]
      clear hd
      go_in
      go_wp2_with fail
      go_ret
      exact ⟨rfl, rfl⟩
    · by_cases h1 : (S.bl.length : Int) ≤ i
      · have HL : Hid (refI S i = 81) := by show _ = _; unfold refI; rw [hd, if_neg (by simp), if_pos (.inr h1)]
        rw [HL.out]
        clear hd
        go_in
        go_wp2_with fail
        go_ret
        exact ⟨rfl, rfl⟩
      · have HL : Hid (refI S i = 0) := by show _ = _; unfold refI; rw [hd, if_neg (by simp), if_neg (by omega)]
        rw [HL.out]
        clear hd
        go_in
        go_wp2_with fail
        go_ret
        exact ⟨rfl, rfl⟩
  · rw [hd] at c1
    have HL : Hid (refI S i = 80) := by show _ = _; unfold refI; rw [hd, if_pos rfl]
    rw [HL.out]
    clear hd
    go_in
    go_wp2_with fail
    go_ret
    exact ⟨rfl, rfl⟩
theorem off_walk (h : Dsk T D w v S) : Calls Tryz.prog 172 #[v] w fun e w' => e = .returned (.tuple #[]) ∧ Dsk T D w' v (offS S) ∧ Ch D w w' := by
  obtain ⟨sb, gp, cap, rfl, h, hok⟩ := h
  have HM := hidH h
  have HK : Hid S.ok := hok
  have c1 := h.c1
  have c2 := h.c2
  have f1 := h.soft 1
  have f2 := h.soft 2
  clear h hok
  go_in
  go_wp2_with fail
  refine bodyPost_end (results_none rfl _ _ _) rfl ?_
  exact ⟨rfl, ⟨sb, gp, cap, rfl, (HM.out.put 1 (.bool true) (S' := { S with down := true }) rfl rfl).put 2 (.int .i64 (-1)) rfl rfl, ok_off HK.out⟩, (ch_put _ _ HM.out.d1).self (ch_put _ _ HM.out.d1)⟩
theorem on_walk (h : Dsk T D w v S) : Calls Tryz.prog 16 #[v] w fun e w' => e = .returned (.tuple #[]) ∧ Dsk T D w' v (onS S) ∧ Ch D w w' := by
  obtain ⟨sb, gp, cap, rfl, h, hok⟩ := h
  have HM := hidH h
  have HK : Hid S.ok := hok
  have c1 := h.c1
  have c2 := h.c2
  have f1 := h.soft 1
  have f2 := h.soft 2
  clear h hok
  go_in
  go_wp2_with fail
  refine bodyPost_end (results_none rfl _ _ _) rfl ?_
  exact ⟨rfl, ⟨sb, gp, cap, rfl, (HM.out.put 1 (.bool false) (S' := { S with down := false }) rfl rfl).put 2 (.int .i64 (-1)) rfl rfl, ok_on HK.out⟩, (ch_put _ _ HM.out.d1).self (ch_put _ _ HM.out.d1)⟩
theorem cut_walk (h : Dsk T D w v S) {n : Int} (hn : n < 9223372036854775808) : Calls Tryz.prog 11 #[v, .int .i64 n] w fun e w' => e = .returned (.tuple #[]) ∧ Dsk T D w' v (cutS S n) ∧ Ch D w w' := by
  obtain ⟨sb, gp, cap, rfl, h, hok⟩ := h
  have HM := hidH h
  have HK : Hid S.ok := hok
  have c2 := h.c2
  have f2 := h.soft 2
  have HN := hidH hn
  clear h hok hn
  by_cases h0 : n < 0
  · have HS : Hid (cutS S n = { S with left := -1 }) := by show _ = _; unfold cutS; rw [if_pos h0]
    have r : max n (-1) = -1 := by omega
    have h1 : n ≤ -1 := by omega
    have HH : Hid (n ≤ -1) := h1
    go_in
    go_wp2_with fail
    all_goals refine bodyPost_end (results_none rfl _ _ _) rfl ?_
    all_goals refine ⟨rfl, ⟨sb, gp, cap, rfl, ?_, ok_cut HK.out HN.out⟩, ch_put _ _ HM.out.d1⟩
    all_goals rw [HS.out]
    all_goals first
      | exact HM.out.put 2 _ rfl rfl
      | (have e : n = -1 := by have := HH.out; omega
         rw [e]; exact HM.out.put 2 _ rfl rfl)
  · have HS : Hid (cutS S n = { S with left := n }) := by show _ = _; unfold cutS; rw [if_neg h0]
    have r : max n (-1) = n := by omega
    have h1 : -1 < n := by omega
    clear h0
    go_in
    go_wp2_with fail
    all_goals refine bodyPost_end (results_none rfl _ _ _) rfl ?_
    all_goals refine ⟨rfl, ⟨sb, gp, cap, rfl, ?_, ok_cut HK.out HN.out⟩, ch_put _ _ HM.out.d1⟩
    all_goals rw [HS.out]
    all_goals exact HM.out.put 2 _ rfl rfl
theorem down_walk (h : Dsk T D w v S) : Calls Tryz.prog 14 #[v] w fun e w' => e = .returned (.bool S.down) ∧ w' = w := by
  obtain ⟨sb, gp, cap, rfl, h, hok⟩ := h
  have c1 := h.c1
  clear h hok
  go_in
  go_wp2_with fail
  go_ret
  exact ⟨rfl, rfl⟩
theorem blocks_walk (h : Dsk T D w v S) : Calls Tryz.prog 89 #[v] w fun e w' => e = .returned (.int .i64 S.bl.length) ∧ w' = w := by
  obtain ⟨sb, gp, cap, rfl, h, hok⟩ := h
  have c0 := h.c0
  clear h hok
  go_in
  go_wp2_with fail
  go_ret
  exact ⟨rfl, rfl⟩
end
end
section
open Go.RowKit

theorem wdF_get (n x k : Nat) (hk : k < n) : (Wm.wdF n x)[k]? = some (x / 256 ^ k % 256) := by
 induction n generalizing x k with
 | zero => omega
 | succ n ih =>
  cases k with
  | zero => simp [Wm.wdF]
  | succ k =>
   simp only [Wm.wdF, List.getElem?_cons_succ]
   rw [ih (x / 256) k (by omega), Nat.div_div_eq_div_mul, Nat.pow_succ, Nat.mul_comm 256]
def wpre (x k : Nat) : List Nat := (Wm.wd x).take k ++ List.replicate (8 - k) 0
theorem wpre_len (x k : Nat) (hk : k ≤ 8) : (wpre x k).length = 8 := by
 unfold wpre; rw [List.length_append, List.length_take, List.length_replicate, Wm.wd_len]; omega
theorem wpre_zero (x : Nat) : wpre x 0 = List.replicate 8 0 := by simp [wpre]
theorem wpre_all (x : Nat) : wpre x 8 = Wm.wd x := by
 unfold wpre; rw [List.take_of_length_le (by rw [Wm.wd_len]; omega)]; simp
theorem wpre_set (x k : Nat) (hk : k < 8) : (wpre x k).set k (x / 256 ^ k % 256) = wpre x (k + 1) := by
 have hw := wdF_get 8 x k hk
 have hl : k < (Wm.wd x).length := by rw [Wm.wd_len]; exact hk
 have hget : (Wm.wd x)[k] = x / 256 ^ k % 256 := by
  have : (Wm.wd x)[k]? = some (x / 256 ^ k % 256) := hw
  rw [List.getElem?_eq_getElem hl] at this
  exact Option.some.inj this
 unfold wpre
 rw [List.set_append_right _ _ (by rw [List.length_take, Wm.wd_len]; omega), List.length_take, Wm.wd_len,
  show k - min k 8 = 0 by omega, show 8 - k = (8 - (k + 1)) + 1 by omega, List.replicate_succ, List.set_cons_zero,
  List.take_succ_eq_append_getElem hl, hget, List.append_assoc]
 rfl
def WordRel (x H : Nat) (w : World) (iv : Value) (wr : World) : Prop :=
 ∃ k : Nat, k ≤ 8 ∧ iv = .int .i64 k ∧ wr.ownsRow H 5 1 (.slice (some ⟨H, 0, none⟩) 8 8) 8 ((ib (wpre x k)).map (Value.int .u8)) ∧ Below H w wr
theorem pow256 (i : Nat) : (2 : Nat) ^ (8 * i) = 256 ^ i := by rw [Nat.pow_mul]
theorem wordrel_step {x H k : Nat} {w wr : World} (hk : k < 8) (hbel : Below H w wr)
  (hown : wr.ownsRow H 5 1 (.slice (some ⟨H, 0, none⟩) 8 8) 8 ((ib (wpre x k)).map (Value.int .u8))) :
  WordRel x H w (.int .i64 ((k : Int) + 1)) (wr.setCell ⟨H, k, none⟩ (.int .u8 ((x : Int) / 2 ^ (8 * k) % 256))) := by
 have hs := hown.stored k (.int .u8 ((x : Int) / 2 ^ (8 * k) % 256))
 refine ⟨k + 1, hk, rfl, ?_, hbel.setCell (Nat.le_refl _) _⟩
 have e : ((x : Int) / 2 ^ (8 * k) % 256) = ((x / 256 ^ k % 256 : Nat) : Int) := by
  rw [← pow256, Int.natCast_emod, Int.natCast_ediv, Int.natCast_pow]; rfl
 have e2 : ((ib (wpre x k)).map (Value.int .u8)).set k (.int .u8 ((x : Int) / 2 ^ (8 * k) % 256)) = (ib (wpre x (k + 1))).map (Value.int .u8) := by
  rw [← wpre_set x k hk, e]
  simp [ib, List.map_set]
 rw [← e2]
 exact hs.1
theorem wordrel_start {x : Nat} {w w1 : World} (hown : w1.ownsRow w.heap.size 5 1 (.slice (some ⟨w.heap.size, 0, none⟩) 8 8) 8 (madeCells (Value.int .u8 0).cells (8 * 1)).toList) (hg : w.grownBy w1 none) :
  WordRel x w.heap.size w (.int .i64 0) w1 := by
 refine ⟨0, by omega, rfl, ?_, (Below.refl _ _).grown hg (Nat.le_refl _) (by simp)⟩
 rw [wpre_zero]
 have e : (madeCells (Value.int .u8 0).cells (8 * 1)).toList = (ib (List.replicate 8 0)).map (Value.int .u8) := by
  show (madeCells #[Value.int .u8 0] 8).toList = _
  rw [toList_madeCells_one]; simp [ib]
 rw [← e]
 exact hown
theorem word_walk (x : Nat) (w : World) :
  Calls Tryz.prog 200 #[.int .u64 x] w fun e w' => ∃ v, e = .returned v ∧ w'.ownsRow w.heap.size 5 1 v 8 ((ib (Wm.wd x)).map (Value.int .u8)) ∧ Below w.heap.size w w' := by
 obtain ⟨i0, hi, hz0, hz1, hz2⟩ := info_parts info_u8
 go_in
 go_wp2_with (at_make; refine wpList_make_full _ (by rfl) _ _ 78 (by rfl) w.heap.size 5 i0 (.int .u8 0) 1 Tryz.underlying78 hi hz0 hz1 .i64 .i64 8 8 8 (by rfl) (by rfl) rfl rfl (by rw [hz2]; decide) (by simp [maxLen]) (Nat.le_refl _) ?_; intro w1 hown hgrow)
 have HST : Hid (WordRel x w.heap.size w (.int .i64 0) w1) := wordrel_start hown hgrow
 clear hown hgrow hi hz0 hz1 hz2
 go_loopw [8] (fun iv wr => WordRel x w.heap.size w iv wr) (fun iv _ => 8 - (intOf iv).toNat)
 case atStart => exact HST.out
 case round =>
  obtain ⟨k, hk, rfl, hown, hbel⟩ := hrel
  have HO := hidH hown
  by_cases hlt : (k : Int) < 8
  ·have hq : wr.cell? ⟨w.heap.size, k, none⟩ = ((ib (wpre x k)).map (Value.int .u8))[k]? := hown.cellAt k (by omega)
   have hfr := hown.frozenAt k
   have hk8 : k < ((ib (wpre x k)).map (Value.int .u8)).length := by rw [List.length_map, ib_len, wpre_len x k hk]; omega
   rw [List.getElem?_eq_getElem hk8] at hq
   obtain ⟨q, hq'⟩ : ∃ q, wr.cell? ⟨w.heap.size, k, none⟩ = some q := ⟨_, hq⟩
   have R : Hid (WordRel x w.heap.size w (.int .i64 ((k : Int) + 1)) (wr.setCell ⟨w.heap.size, k, none⟩ (.int .u8 ((x : Int) / 2 ^ (8 * k) % 256)))) := wordrel_step (by omega) hbel hown
   clear hq hk8 hown
   go_wp2
   go_roundw
   case rel => exact R.out
   case measure => simp [intOf]; omega
  ·obtain rfl : k = 8 := by omega
   clear hown
   go_wp2
   go_ret
   exact ⟨_, rfl, by have := HO.out; rwa [wpre_all] at this, hbel⟩
end
section
open Go.RowKit

theorem unw_append (l r : List Nat) : Wm.unw (l ++ r) = Wm.unw l + 256 ^ l.length * Wm.unw r := by
 induction l with
 | nil => simp [Wm.unw]
 | cons c l ih =>
  simp only [List.cons_append, Wm.unw, ih, List.length_cons, Nat.pow_succ]
  rw [Nat.mul_add, Nat.mul_comm (256 ^ l.length) 256, Nat.mul_assoc]
  omega
theorem unw_take_succ {l : List Nat} {k c : Nat} (hk : k < l.length) (hc : l.getD k 0 = c) : Wm.unw (l.take (k + 1)) = Wm.unw (l.take k) + c * 256 ^ k := by
 have e : l.getD k 0 = l[k] := by simp [List.getD, List.getElem?_eq_getElem hk]
 rw [List.take_succ_eq_append_getElem hk, unw_append, List.length_take, Nat.min_eq_left (by omega), ← e, hc]
 simp [Wm.unw, Nat.mul_comm]
theorem wacc_or {x c k : Nat} (hx : x < 256 ^ k) (hk : k < 8) (hc : c < 256) :
  bits .or .u64 (x : Int) (IntKind.u64.wrap ((c : Int) * 2 ^ (8 * k))) = ((x + c * 256 ^ k : Nat) : Int) := by
 have hp : (256 : Nat) ^ k ≤ 256 ^ 7 := Nat.pow_le_pow_right (by omega) (by omega)
 have h1 : c * 256 ^ k ≤ 255 * 256 ^ 7 := Nat.mul_le_mul (by omega) hp
 have h2 : c * 256 ^ k < 18446744073709551616 := Nat.lt_of_le_of_lt h1 (by decide)
 have h3 : x < 18446744073709551616 := Nat.lt_of_lt_of_le (Nat.lt_of_lt_of_le hx hp) (by decide)
 have e : (c : Int) * 2 ^ (8 * k) = ((c * 256 ^ k : Nat) : Int) := by
  rw [← pow256, Int.natCast_mul, Int.natCast_pow]; rfl
 rw [e, wrap_u64_id (by omega) (by generalize c * 256 ^ k = z at h2 ⊢; omega), bits_or_u64_nat x _ h3 h2]
 congr 1
 rw [← pow256] at hx ⊢
 rw [Nat.or_comm, Nat.mul_comm, ← Nat.two_pow_add_eq_or_of_lt hx]
 omega
def t2 (r : Nat × Nat) : Value := .tuple #[.int .u64 (r.1 : Nat), .int .i64 (r.2 : Nat)]
theorem t2_short {l : List Nat} (h : l.length < 8) : Ending.returned (.tuple #[.int .u64 0, .int .i64 3]) = .returned (t2 (Wm.takeW l)) := by
 unfold Wm.takeW; rw [if_pos h]; rfl
theorem t2_long {l : List Nat} {a : Int} (h : 8 ≤ l.length) (ha : a = (Wm.unw (l.take 8) : Nat)) : Ending.returned (.tuple #[.int .u64 a, .int .i64 0]) = .returned (t2 (Wm.takeW l)) := by
 unfold Wm.takeW; rw [if_neg (by omega), ha]; rfl
theorem takew_short (l : List Nat) (ao : Option Addr) (cap : Nat) (w : World) (h : l.length < 8) :
  Calls Tryz.prog 195 #[.slice ao l.length cap] w fun e w' => e = .returned (t2 (Wm.takeW l)) ∧ w' = w := by
 have h8 : (l.length : Int) < 8 := by omega
 go_in
 go_wp2
 go_ret2
 exact ⟨t2_short h, rfl⟩
theorem takew_long (l : List Nat) (b off cap : Nat) (w : World) (h8 : 8 ≤ l.length)
  (hc : ∀ i, i < l.length → w.cell? ⟨b, off + i, none⟩ = some (.int .u8 ((l.getD i 0 : Nat) : Int))) (h256 : ∀ c ∈ l, c < 256) :
  Calls Tryz.prog 195 #[.slice (some ⟨b, off, none⟩) l.length cap] w fun e w' => e = .returned (t2 (Wm.takeW l)) ∧ w' = w := by
 have HC : Hid (∀ i, i < l.length → w.cell? ⟨b, off + i, none⟩ = some (.int .u8 ((l.getD i 0 : Nat) : Int))) := hc
 have H256 := hidH h256
 have hl8 : ¬ (l.length : Int) < 8 := by omega
 clear hc h256
 go_in
 go_wp2
 go_loop [4, 9] (fun xv iv => ∃ k x : Nat, xv = .int .u64 x ∧ iv = .int .i64 k ∧ k ≤ 8 ∧ x = Wm.unw (l.take k)) (fun _ iv => 8 - (intOf iv).toNat)
 case atStart => exact ⟨0, 0, rfl, rfl, by omega, rfl⟩
 case round =>
  obtain ⟨k, x, rfl, rfl, hk, hx⟩ := hrel
  have HX : Hid (x = Wm.unw (l.take k)) := hx
  clear hx
  by_cases hlt : (k : Int) < 8
  ·have hcell := HC.out k (by omega)
   obtain ⟨c, hcd⟩ : ∃ c, l.getD k 0 = c := ⟨_, rfl⟩
   rw [hcd] at hcell
   have HD : Hid (l.getD k 0 = c) := hcd
   have HC2 : Hid (c < 256) := by show c < 256; rw [← hcd]; exact H256.out _ (by simp [List.getD, List.getElem?_eq_getElem (show k < l.length by omega)])
   have hkl : (k : Int) < (l.length : Int) := by omega
   have hci : (c : Int) < 256 := by have := HC2.out; omega
   have HLT : Hid (x < 256 ^ k) := by
    have h1 := Wm.unw_lt (l.take k) (fun d hd => H256.out d (List.mem_of_mem_take hd))
    rw [← HX.out, List.length_take, Nat.min_eq_left (by omega)] at h1
    exact h1
   clear hcd
   go_wp2_with fail
   go_round
   case rel => exact ⟨k + 1, _, by rw [wacc_or HLT.out (by omega) HC2.out], by go_num, by omega, by rw [unw_take_succ (by omega) HD.out, HX.out]⟩
   case measure => simp [intOf]; omega
  ·obtain rfl : k = 8 := by omega
   go_wp2_with fail
   go_ret2
   exact ⟨t2_long h8 (by rw [HX.out]), rfl⟩
theorem takew_walk {w : World} {v : Value} {l : List Nat} (h : Bv w v l) :
  Calls Tryz.prog 195 #[v] w fun e w' => e = .returned (t2 (Wm.takeW l)) ∧ w' = w := by
 by_cases h8 : l.length < 8
 ·obtain ⟨⟨ao, cap, rfl, _⟩, _⟩ := h
  rw [ib_len]
  exact takew_short l ao cap w h8
 ·rcases bv_cases h with ⟨rfl, _⟩ | ⟨b, off, cap, rfl, hp, h1, h2, h3⟩
  ·simp at h8
  ·exact takew_long l b off cap w (by omega) h3 h.2
end
section
open Go.RowKit

def lastK (l : List Cl) : Option Nat := l.getLast?.map Cl.k
theorem lastK_snoc (q : List Cl) (c : Cl) : lastK (q ++ [c]) = some c.k := by simp [lastK]
theorem follows_at (n m k : Nat) (c : Cl) (b off cap : Nat) (w : World) (hn : n = m + 1) (hl : n ≤ cap) (hcap : cap ≤ maxLen) (h : CA w b (off + m * 6) c) :
  Calls Tryz.prog 128 #[.slice (some ⟨b, off, none⟩) n cap, .int .u64 k] w fun e w' => e = .returned (.bool (folB (some c.k) k)) ∧ w' = w := by
 unfold maxLen at hcap
 have h1 : (n : Int) - 1 = (m : Int) := by omega
 have h2 : (m : Int) < (n : Int) := by omega
 have h3 : ((n : Int) == 0) = false := by simp; omega
 have h4 : (n : Int) ≤ 9223372036854775807 := by omega
 have h0 := h.c0
 clear hn hcap hl
 by_cases hk : c.k < k
 ·have e : folB (some c.k) k = true := by simp [folB, hk]
  have hk1 : (c.k : Int) < (k : Int) := by omega
  rw [e]
  go_in
  go_wp2_with fail
  go_ret
  exact ⟨rfl, rfl⟩
 ·have e : folB (some c.k) k = false := by simp [folB]; omega
  have hk1 : ¬ (c.k : Int) < (k : Int) := by omega
  rw [e]
  go_in
  go_wp2_with fail
  go_ret
  exact ⟨rfl, rfl⟩
theorem follows_void (ao : Option Addr) (cap k : Nat) (w : World) :
  Calls Tryz.prog 128 #[.slice ao 0 cap, .int .u64 k] w fun e w' => e = .returned (.bool true) ∧ w' = w := by
 go_in
 go_wp2_with fail
 go_ret
 exact ⟨rfl, rfl⟩
theorem follows_walk {w : World} {v : Value} {l : List Cl} (h : Cv w v l) (k : Nat) :
  Calls Tryz.prog 128 #[v, .int .u64 k] w fun e w' => e = .returned (.bool (folB (lastK l) k)) ∧ w' = w := by
 rcases cv_cases h with ⟨rfl, ao, cap, rfl⟩ | ⟨b, off, cap, rfl, hp, h1, h2, h3⟩
 ·exact follows_void ao cap k w
 ·obtain ⟨q, c, rfl⟩ : ∃ q c, l = q ++ [c] := ⟨l.dropLast, l.getLast (List.length_pos_iff.1 hp), (List.dropLast_concat_getLast _).symm⟩
  rw [lastK_snoc]
  have := h3 q.length (by simp)
  rw [List.getElem_append_right (Nat.le_refl _)] at this
  simp only [Nat.sub_self, List.getElem_singleton] at this
  exact follows_at _ q.length k c b off cap w (by simp) h1 h2 this
theorem plain_walk (v : Vl) (w : World) :
  Calls Tryz.prog 174 #[.agg #[.bool v.h, .int .u64 v.b]] w fun e w' => e = .returned (.bool (plainB v)) ∧ Below w.heap.size w w' := by
 obtain ⟨h, b⟩ := v
 cases h
 ·by_cases hb : b = 0
  ·subst hb
   go_in
   go_wp2_with fail
   go_ret
   exact ⟨rfl, below_alloc _ _⟩
  ·have e : plainB ⟨false, b⟩ = false := by simp [plainB, hb]
   have h1 : ((b : Int) == 0) = false := by simp; omega
   rw [e]
   go_in
   go_wp2_with fail
   go_ret
   exact ⟨rfl, below_alloc _ _⟩
 ·go_in
  go_wp2_with fail
  go_ret
  exact ⟨rfl, below_alloc _ _⟩
theorem writable_walk (c : Cl) (w : World) :
  Calls Tryz.prog 129 #[.agg #[.int .u64 c.k, .bool c.p.h, .int .u64 c.p.b, .bool c.c.h, .int .u64 c.c.b, .int .i64 c.n]] w fun e w' => e = .returned (.bool (writB c)) ∧ Below w.heap.size w w' := by
 have HC : Hid (CB (w.alloc (Obj.cells #[.int .u64 c.k, .bool c.p.h, .int .u64 c.p.b, .bool c.c.h, .int .u64 c.c.b, .int .i64 c.n] 63)) w.heap.size c) := cb_new w c
 have HB : Hid (Below w.heap.size w (w.alloc (Obj.cells #[.int .u64 c.k, .bool c.p.h, .int .u64 c.p.b, .bool c.c.h, .int .u64 c.c.b, .int .i64 c.n] 63))) := below_alloc _ _
 by_cases h1 : 0 ≤ c.n
 ·by_cases h2 : c.n ≤ 1099511627776
  ·cases hp : plainB c.p
   ·have e : writB c = false := by simp [writB, hp]
    rw [e]
    clear e
    go_in
    go_wp2_with fail
    refine (plain_walk c.p _).mono ?_
    rw [hp]
    rintro e w2 ⟨rfl, hB2⟩
    go_wp2_with fail
    go_ret
    exact ⟨rfl, below_trans HB.out hB2⟩
   ·have e : writB c = plainB c.c := by simp [writB, hp, h1, h2]
    rw [e]
    clear e
    go_in
    go_wp2_with fail
    refine (plain_walk c.p _).mono ?_
    rw [hp]
    rintro e w2 ⟨rfl, hB2⟩
    obtain ⟨_, _, _, d3, d4, _, _⟩ := HC.out.keep hB2
    go_wp2_with fail
    refine (plain_walk c.c _).mono ?_
    rintro e w3 ⟨rfl, hB3⟩
    go_wp2_with fail
    go_ret
    exact ⟨rfl, below_trans HB.out (below_trans hB2 hB3)⟩
  ·have e : writB c = false := by simp [writB]; omega
   rw [e]
   go_in
   go_wp2_with fail
   go_ret
   exact ⟨rfl, HB.out⟩
 ·have e : writB c = false := by simp [writB]; omega
  rw [e]
  go_in
  go_wp2_with fail
  go_ret
  exact ⟨rfl, HB.out⟩
theorem valueBytes_walk (v : Vl) (w : World) :
  Calls Tryz.prog 175 #[.agg #[.bool v.h, .int .u64 v.b]] w fun e w' => ∃ u, e = .returned u ∧ Bv w' u (valB v) ∧ Below w.heap.size w w' := by
 obtain ⟨h, b⟩ := v
 cases h
 ·go_in
  go_wp2_with fail
  go_ret
  exact ⟨_, rfl, Bv.nil _, below_alloc _ _⟩
 ·go_in
  go_wp2_with (go_at_call 200; refine (word_walk b _).mono ?_; rintro e w2 ⟨v, rfl, hown, hB2⟩)
  go_ret
  have hb := own_bv hown (wd_lt b)
  exact ⟨v, rfl, by simpa [valB] using hb, below_trans (below_alloc _ _) hB2⟩
end
end Go.Proofs.YtofkhgokfdpdiabGreat
