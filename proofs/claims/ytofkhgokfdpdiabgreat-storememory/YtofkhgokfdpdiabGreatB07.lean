/- Nums and its reference. -/
import Derived.Test.YtofkhgokfdpdiabGreatB02
import Derived.Test.YtofkhgokfdpdiabGreatB06
set_option maxRecDepth 100000
set_option maxHeartbeats 16000000
namespace Go.Proofs.YtofkhgokfdpdiabGreat
section
open Go.RowKit

def Pv (w : World) (v : Value) (ls : List (List Nat)) : Prop :=
 ∃ ao cap, v = .slice ao ls.length cap ∧ ls.length ≤ cap ∧ cap ≤ maxLen ∧ (ao = none → cap = 0) ∧
  ∀ i, i < ls.length → ∃ b off u, ao = some ⟨b, off, none⟩ ∧ w.cell? ⟨b, off + i, none⟩ = some u ∧ Bv w u (ls.getD i [])
theorem flat_take_le (ls : List (List Nat)) (k : Nat) : (ls.take k).flatten.length ≤ ls.flatten.length := by
 have : ls.flatten = (ls.take k).flatten ++ (ls.drop k).flatten := by rw [← List.flatten_append, List.take_append_drop]
 rw [this]; simp
theorem flat_take_succ (ls : List (List Nat)) (k : Nat) (hk : k < ls.length) : (ls.take (k + 1)).flatten = (ls.take k).flatten ++ ls.getD k [] := by
 have e : ls.getD k [] = ls[k] := by simp [List.getD, List.getElem?_eq_getElem hk]
 rw [e, List.take_succ_eq_append_getElem hk, List.flatten_append, List.flatten_singleton]
def JoinRel (ls : List (List Nat)) (H : Nat) (w : World) (v iv : Value) (wr : World) : Prop :=
 ∃ k : Nat, k ≤ ls.length ∧ iv = .int .i64 k ∧ wr.ownsRow H 5 1 v (ls.take k).flatten.length ((ib (ls.take k).flatten).map (Value.int .u8)) ∧ Below H w wr
theorem joinrel_start (ls : List (List Nat)) (w : World) :
  JoinRel ls w.heap.size w (.slice (some ⟨w.heap.size, 0, none⟩) 0 0) (.int .i64 0) (w.alloc (.cells #[] 5)) :=
 ⟨0, Nat.zero_le _, rfl, World.ownsRow_made w #[] 0 (Nat.le_refl _) (by simp [maxLen]) rfl, below_alloc w _⟩
theorem joinrel_step {ls : List (List Nat)} {H k : Nat} {w wr w1 : World} {v v' : Value} {p : List Nat} (hp : ls.getD k [] = p) (hk : k < ls.length) (hH : H ≤ wr.heap.size) (hbel : Below H w wr)
  (hown : wr.ownsRow H 5 1 v (ls.take k).flatten.length ((ib (ls.take k).flatten).map (Value.int .u8)))
  (hown' : w1.ownsRow H 5 1 v' ((ls.take k).flatten.length + (ib p).length) ((ib (ls.take k).flatten).map (Value.int .u8) ++ (ib p).map (Value.int .u8))) (hg : wr.grownBy w1 v.ownBlock) :
  JoinRel ls H w v' (.int .i64 ((k : Int) + 1)) w1 := by
 refine ⟨k + 1, hk, rfl, ?_, hbel.trans (grown_below hown hg hH)⟩
 rw [flat_take_succ ls k hk, hp, List.length_append, ib_append, List.map_append]
 rw [ib_len] at hown'
 exact hown'
theorem join_some (ls : List (List Nat)) (b off cap : Nat) (w : World) (hl : ls.length ≤ cap) (hcap : cap ≤ maxLen) (hsz : ls.flatten.length ≤ 140737488355328)
  (hc : ∀ i, i < ls.length → ∃ u, w.cell? ⟨b, off + i, none⟩ = some u ∧ Bv w u (ls.getD i [])) :
  Calls Tryz.prog 121 #[.slice (some ⟨b, off, none⟩) ls.length cap] w fun e w' => ∃ v, e = .returned v ∧ w'.ownsRow w.heap.size 5 1 v ls.flatten.length ((ib ls.flatten).map (Value.int .u8)) ∧ Below w.heap.size w w' := by
 unfold maxLen at hcap
 have HST : Hid (JoinRel ls w.heap.size w (.slice (some ⟨w.heap.size, 0, none⟩) 0 0) (.int .i64 0) (w.alloc (.cells #[] 5))) := joinrel_start ls w
 have hli : (ls.length : Int) ≤ 9223372036854775807 := by omega
 have HSZ := hidH hsz
 have HC : Hid (∀ i, i < ls.length → ∃ u, w.cell? ⟨b, off + i, none⟩ = some u ∧ Bv w u (ls.getD i [])) := hc
 clear hcap hsz hc hl
 go_in
 go_wp2
 go_loopw [3, 9] (fun v iv wr => JoinRel ls w.heap.size w v iv wr) (fun _ iv _ => ls.length - (intOf iv).toNat)
 case atStart => exact HST.out
 case round =>
  obtain ⟨k, hk, rfl, hown, hbel⟩ := hrel
  have hH : w.heap.size ≤ wr.heap.size := hbel.size
  by_cases hlt : k < ls.length
  ·obtain ⟨u, hu, hbu⟩ := HC.out k hlt
   obtain ⟨p, hp⟩ : ∃ p, ls.getD k [] = p := ⟨_, rfl⟩
   rw [hp] at hbu
   have HP : Hid (ls.getD k [] = p) := hp
   have HB : Hid (Bv wr u p) := hbu.below hbel
   have HBD : Hid ((ls.take k).flatten.length + (ib p).length ≤ 140737488355328) := by
    have h1 := flat_take_le ls (k + 1)
    rw [flat_take_succ ls k hlt, List.length_append, hp] at h1
    have := HSZ.out
    rw [ib_len]
    exact Nat.le_trans h1 this
   obtain ⟨⟨a, c, rfl, _⟩, _⟩ := hbu
   have hcell : wr.cell? ⟨b, off + k, none⟩ = some (.slice a (ib p).length c) := by rw [hbel.cell (p := ⟨b, off + k, none⟩) (cell_lt hu)]; exact hu
   clear hp
   clear hu
   go_wp2_with (at_builtin; refine wpList_append_sv (by rfl) (.tmp 13) (.tmp 14) 78 (by rfl) w.heap.size 5 .u8 1 Tryz.underlying78 info_u8 _ _ _ (by rfl) hown _ _ (by rfl) HB.out.1 (by have := HBD.out; simp only [maxLen]; omega) (by have := HBD.out; omega) hH ?_; intro v' w1 hown' hgrow)
   have R := joinrel_step HP.out hlt hH hbel hown hown' hgrow
   clear hown' hgrow
   go_wp2
   go_roundw
   case rel => exact R
   case measure => simp [intOf]; omega
  ·obtain rfl : k = ls.length := by omega
   have HO : Hid (wr.ownsRow w.heap.size 5 1 u3 ls.flatten.length ((ib ls.flatten).map (Value.int .u8))) := by
    have := hown
    rwa [List.take_length] at this
   clear hown
   go_wp2
   go_ret
   exact ⟨_, rfl, HO.out, hbel⟩
theorem join_none (ao : Option Addr) (cap : Nat) (w : World) :
  Calls Tryz.prog 121 #[.slice ao 0 cap] w fun e w' => ∃ v, e = .returned v ∧ w'.ownsRow w.heap.size 5 1 v 0 [] ∧ Below w.heap.size w w' := by
 have H : Hid ((w.alloc (.cells #[] 5)).ownsRow w.heap.size 5 1 (.slice (some ⟨w.heap.size, 0, none⟩) 0 0) 0 []) := World.ownsRow_made w #[] 0 (Nat.le_refl _) (by simp [maxLen]) rfl
 go_in
 go_wp2
 refine wp_loop_rounds 1 ?_
 rw [rounds_succ]
 go_wp2
 go_ret
 exact ⟨_, rfl, H.out, below_alloc w _⟩
theorem join_walk {w : World} {v : Value} {ls : List (List Nat)} (h : Pv w v ls) (hsz : ls.flatten.length ≤ 140737488355328) :
  Calls Tryz.prog 121 #[v] w fun e w' => ∃ v, e = .returned v ∧ w'.ownsRow w.heap.size 5 1 v ls.flatten.length ((ib ls.flatten).map (Value.int .u8)) ∧ Below w.heap.size w w' := by
 obtain ⟨ao, cap, rfl, h1, h2, h3, h4⟩ := h
 by_cases h0 : ls = []
 ·subst h0
  exact join_none ao cap w
 ·have hp := List.length_pos_iff.2 h0
  obtain ⟨b, off, u, rfl, _, _⟩ := h4 0 hp
  refine join_some ls b off cap w h1 h2 hsz fun i hi => ?_
  obtain ⟨b', off', u', e1, e2, e3⟩ := h4 i hi
  cases e1
  exact ⟨u', e2, e3⟩
end
section
open Go.RowKit

theorem andNot128 (c : Nat) (h : c < 256) : bits .andNot .u8 (c : Int) 128 = (c : Int) % 128 := by
 have := u8_andNot_nat c 128 h (by omega)
 rw [show ((128 : Nat) : Int) = 128 from rfl] at this
 rw [this]
 have e : c &&& (255 - 128) = c % 128 := Nat.and_two_pow_sub_one_eq_mod c 7
 rw [e]
 omega
theorem pow128 (i : Nat) : (2 : Nat) ^ (7 * i) = 128 ^ i := by rw [Nat.pow_mul]
theorem acc_lt {c i : Nat} (hi : i ≤ 9) (hok : i = 9 → c ≤ 1) : c % 128 * 128 ^ i < 18446744073709551616 ∧ (c % 128 + 1) * 128 ^ i ≤ 18446744073709551616 := by
 by_cases h : i = 9
 ·subst h
  have hc := hok rfl
  have : c = 0 ∨ c = 1 := by omega
  rcases this with rfl | rfl <;> decide
 ·have hp : (128 : Nat) ^ i ≤ 128 ^ 8 := Nat.pow_le_pow_right (by omega) (by omega)
  have h1 : c % 128 * 128 ^ i ≤ 127 * 128 ^ 8 := Nat.mul_le_mul (by omega) hp
  have h2 : (c % 128 + 1) * 128 ^ i ≤ 128 * 128 ^ 8 := Nat.mul_le_mul (by omega) hp
  exact ⟨Nat.lt_of_le_of_lt h1 (by decide), Nat.le_trans h2 (by decide)⟩
theorem shl_eq {c i : Nat} (hi : i ≤ 9) (hok : i = 9 → c ≤ 1) : IntKind.u64.wrap ((c : Int) % 128 * 2 ^ (7 * i)) = ((c % 128 * 128 ^ i : Nat) : Int) := by
 have h := (acc_lt (c := c) hi hok).1
 have e : ((c : Int) % 128 * 2 ^ (7 * i)) = ((c % 128 * 128 ^ i : Nat) : Int) := by
  rw [← pow128]; push_cast; rfl
 rw [e]
 generalize c % 128 * 128 ^ i = z at h ⊢
 exact wrap_u64_id (by omega) (by omega)
theorem acc_or {x c i : Nat} (hx : x < 128 ^ i) (hi : i ≤ 9) (hok : i = 9 → c ≤ 1) :
  bits .or .u64 (x : Int) (IntKind.u64.wrap ((c : Int) % 128 * 2 ^ (7 * i))) = ((x + c % 128 * 128 ^ i : Nat) : Int) := by
 have h := acc_lt (c := c) hi hok
 rw [shl_eq hi hok, bits_or_u64_nat x _ (by have := h.2; rw [Nat.add_mul] at this; omega) h.1]
 congr 1
 rw [← pow128] at hx ⊢
 rw [Nat.or_comm, Nat.mul_comm, ← Nat.two_pow_add_eq_or_of_lt hx]
 omega
theorem acc_next {x c i : Nat} (hx : x < 128 ^ i) : x + c % 128 * 128 ^ i < 128 ^ (i + 1) := by
 have : (c % 128 + 1) * 128 ^ i ≤ 128 * 128 ^ i := Nat.mul_le_mul_right _ (by omega)
 rw [Nat.add_mul] at this
 rw [Nat.pow_succ]; omega
theorem drop_cons {l : List Nat} {i c : Nat} (hi : i < l.length) (hc : l.getD i 0 = c) : l.drop i = c :: l.drop (i + 1) := by
 rw [List.drop_eq_getElem_cons hi]
 simp [List.getD, List.getElem?_eq_getElem hi] at hc
 rw [hc]
theorem tk_bad {l : List Nat} {i c x : Nat} {r : Nat × Nat × Nat} (ht : Wm.tk (l.drop i) i x = r) (hi : i < l.length) (hc : l.getD i 0 = c) (hb : (0 < i ∧ c = 0) ∨ (i = 9 ∧ 1 < c)) : r = (0, 0, 4) := by
 rw [← ht, drop_cons hi hc, Wm.tk, if_pos hb]
theorem tk_last {l : List Nat} {i c x : Nat} {r : Nat × Nat × Nat} (ht : Wm.tk (l.drop i) i x = r) (hi : i < l.length) (hc : l.getD i 0 = c) (hb : ¬ ((0 < i ∧ c = 0) ∨ (i = 9 ∧ 1 < c))) (h : c < 128) :
  r = (x + c % 128 * 128 ^ i, i + 1, 0) := by
 rw [← ht, drop_cons hi hc, Wm.tk, if_neg hb, if_pos h, Nat.mod_eq_of_lt h]
theorem tk_next {l : List Nat} {i c x : Nat} {r : Nat × Nat × Nat} (ht : Wm.tk (l.drop i) i x = r) (hi : i < l.length) (hc : l.getD i 0 = c) (hb : ¬ ((0 < i ∧ c = 0) ∨ (i = 9 ∧ 1 < c))) (h : 128 ≤ c) (h2 : c < 256) :
  Wm.tk (l.drop (i + 1)) (i + 1) (x + c % 128 * 128 ^ i) = r := by
 rw [← ht, drop_cons hi hc, Wm.tk, if_neg hb, if_neg (by omega)]
 have e : c % 128 = c - 128 := by omega
 rw [e]
theorem tk_end {l : List Nat} {i x : Nat} {r : Nat × Nat × Nat} (ht : Wm.tk (l.drop i) i x = r) (hi : l.length ≤ i) : r = (0, 0, 3) := by
 rw [← ht, List.drop_eq_nil_of_le hi, Wm.tk]
def t3 (r : Nat × Nat × Nat) : Value := .tuple #[.int .u64 (r.1 : Nat), .int .i64 (r.2.1 : Nat), .int .i64 (r.2.2 : Nat)]
theorem t3_mk {r : Nat × Nat × Nat} {a b c : Int} {p q s : Nat} (h : r = (p, q, s)) (ha : a = p) (hb : b = q) (hc : c = s) : Ending.returned (.tuple #[.int .u64 a, .int .i64 b, .int .i64 c]) = .returned (t3 r) := by
 subst h ha hb hc; rfl
theorem take_some (l : List Nat) (b off cap : Nat) (w : World) (hl : l.length ≤ cap) (hcap : cap ≤ maxLen)
  (hc : ∀ i, i < l.length → w.cell? ⟨b, off + i, none⟩ = some (.int .u8 ((l.getD i 0 : Nat) : Int))) (h256 : ∀ c ∈ l, c < 256) :
  Calls Tryz.prog 133 #[.slice (some ⟨b, off, none⟩) l.length cap] w fun e w' => e = .returned (t3 (Wm.take l)) ∧ w' = w := by
 unfold maxLen at hcap
 go_in
 go_wp2
 go_loop [5, 10] (fun xv iv => ∃ i x : Nat, xv = .int .u64 x ∧ iv = .int .i64 i ∧ i ≤ l.length ∧ i ≤ 9 ∧ x < 128 ^ i ∧ Wm.tk (l.drop i) i x = Wm.take l) (fun _ iv => l.length - (intOf iv).toNat)
 case atStart => exact ⟨0, 0, rfl, rfl, by omega, by omega, by simp, rfl⟩
 case round =>
  obtain ⟨i, x, rfl, rfl, hil, hi9, hx, htk⟩ := hrel
  have HX : Hid (x < 128 ^ i) := hx
  have HT : Hid (Wm.tk (l.drop i) i x = Wm.take l) := htk
  clear hx htk
  by_cases hlt : i < l.length
  ·have hcell := hc i hlt
   obtain ⟨c, hcd⟩ : ∃ c, l.getD i 0 = c := ⟨_, rfl⟩
   rw [hcd] at hcell
   have HC : Hid (l.getD i 0 = c) := hcd
   have hc256 : c < 256 := by rw [← hcd]; exact h256 _ (by simp [List.getD, List.getElem?_eq_getElem hlt])
   have han := andNot128 c hc256
   have hci : (c : Int) < 256 := by omega
   have HC2 : Hid (c < 256) := hc256
   have hli : (l.length : Int) ≤ 9223372036854775807 := by omega
   clear hcd hc hc256 hl hcap h256
   by_cases h1 : (0 : Int) < (i : Int)
   ·by_cases h2 : (c : Int) = 0
    ·go_wp2_with fail
     go_ret3
     exact ⟨t3_mk (tk_bad HT.out hlt HC.out (.inl ⟨by omega, by omega⟩)) rfl rfl rfl, rfl⟩
    ·by_cases h3 : (i : Int) = 9
     ·have h3b : ((i : Int) == 9) = true := by simp [h3]
      have H3 : Hid ((i : Int) = 9) := h3
      have h2b : ((c : Int) == 0) = false := by simpa using h2
      clear h3
      by_cases h4 : (1 : Int) < (c : Int)
      ·go_wp2_with fail
       go_ret3
       exact ⟨t3_mk (tk_bad HT.out hlt HC.out (.inr ⟨by have := H3.out; omega, by omega⟩)) rfl rfl rfl, rfl⟩
      ·go_wp2_with fail
       go_ret3
       exact ⟨t3_mk (tk_last HT.out hlt HC.out (by omega) (by omega)) (acc_or HX.out hi9 (by omega)) (by omega) rfl, rfl⟩
     ·by_cases h5 : (c : Int) < 128
      ·go_wp2_with fail
       go_ret3
       exact ⟨t3_mk (tk_last HT.out hlt HC.out (by omega) (by omega)) (acc_or HX.out hi9 (by omega)) (by omega) rfl, rfl⟩
      ·go_wp2_with fail
       go_round
       case rel => exact ⟨i + 1, _, by rw [acc_or HX.out hi9 (by omega)], by go_num, by omega, by omega, acc_next HX.out, tk_next HT.out hlt HC.out (by omega) (by omega) HC2.out⟩
       case measure => simp [intOf]; omega
   ·by_cases h5 : (c : Int) < 128
    ·go_wp2_with fail
     go_ret3
     exact ⟨t3_mk (tk_last HT.out hlt HC.out (by omega) (by omega)) (acc_or HX.out hi9 (by omega)) (by omega) rfl, rfl⟩
    ·go_wp2_with fail
     go_round
     case rel => exact ⟨i + 1, _, by rw [acc_or HX.out hi9 (by omega)], by go_num, by omega, by omega, acc_next HX.out, tk_next HT.out hlt HC.out (by omega) (by omega) HC2.out⟩
     case measure => simp [intOf]; omega
  ·have hlt' : ¬ (i : Int) < (l.length : Int) := by omega
   go_wp2_with fail
   go_ret3
   exact ⟨t3_mk (tk_end HT.out (by omega)) rfl rfl rfl, rfl⟩
theorem take_none (ao : Option Addr) (cap : Nat) (w : World) :
  Calls Tryz.prog 133 #[.slice ao 0 cap] w fun e w' => e = .returned (t3 (Wm.take [])) ∧ w' = w := by
 go_in
 go_wp2
 refine wp_loop_rounds 1 ?_
 rw [rounds_succ]
 go_wp2
 go_ret3
 exact ⟨rfl, rfl⟩
theorem bv_cases {w : World} {v : Value} {l : List Nat} (h : Bv w v l) :
  (l = [] ∧ ∃ ao cap, v = .slice ao 0 cap) ∨ ∃ b off cap, v = .slice (some ⟨b, off, none⟩) l.length cap ∧ 0 < l.length ∧ l.length ≤ cap ∧ cap ≤ maxLen ∧
   ∀ i, i < l.length → w.cell? ⟨b, off + i, none⟩ = some (.int .u8 ((l.getD i 0 : Nat) : Int)) := by
 obtain ⟨⟨ao, cap, rfl, h1, h2, h3, h4⟩, h5⟩ := h
 rw [ib_len] at h1 ⊢
 by_cases h0 : l = []
 ·subst h0; exact .inl ⟨rfl, ao, cap, rfl⟩
 ·have hp := List.length_pos_iff.2 h0
  obtain ⟨b, off, rfl, _⟩ := h4 0 (by rw [ib_len]; exact hp)
  refine .inr ⟨b, off, cap, rfl, hp, h1, h2, fun i hi => ?_⟩
  obtain ⟨b', off', e1, e2⟩ := h4 i (by rw [ib_len]; exact hi)
  cases e1
  rw [e2]
  simp [ib, List.getD, List.getElem?_eq_getElem hi]
theorem take_walk {w : World} {v : Value} {l : List Nat} (h : Bv w v l) :
  Calls Tryz.prog 133 #[v] w fun e w' => e = .returned (t3 (Wm.take l)) ∧ w' = w := by
 rcases bv_cases h with ⟨rfl, ao, cap, rfl⟩ | ⟨b, off, cap, rfl, hp, h1, h2, h3⟩
 ·exact take_none ao cap w
 ·exact take_some l b off cap w h1 h2 h3 h.2
end
section
open Go.RowKit

theorem own_below {w w' : World} {base e size n : Nat} {v : Value} {xs : List Value} (h : w.ownsRow base e size v n xs) (hb : Below w.heap.size w w') : w'.ownsRow base e size v n xs := by
 refine ⟨h.1, ?_⟩
 rcases h.2 with h' | ⟨g, cap, cur, hv, hg, hh, r⟩
 ·exact .inl h'
 ·exact .inr ⟨g, cap, cur, hv, hg, by rw [hb.block g (Array.getElem?_eq_some_iff.1 hh).1]; exact hh, r⟩
theorem bv_form {w : World} {v : Value} {l : List Nat} (h : Bv w v l) : ∃ ao cap, v = .slice ao l.length cap := by
 obtain ⟨⟨ao, cap, rfl, _⟩, _⟩ := h
 exact ⟨ao, cap, by rw [ib_len]⟩
theorem own_base {w : World} {base base' e size n : Nat} {v : Value} {xs : List Value} (h : w.ownsRow base e size v n xs) (hb : base' ≤ base) : w.ownsRow base' e size v n xs := by
 refine ⟨h.1, ?_⟩
 rcases h.2 with h' | ⟨g, cap, cur, hv, hg, hh, r⟩
 ·exact .inl h'
 ·exact .inr ⟨g, cap, cur, hv, Nat.le_trans hb hg, hh, r⟩
theorem pv_two {w : World} {u v : Value} {l r : List Nat} (t : TypeId) (hu : Bv w u l) (hv : Bv w v r) :
  Pv (w.alloc (.cells #[u, v] t)) (.slice (some ⟨w.heap.size, 0, none⟩) 2 2) [l, r] := by
 refine ⟨_, 2, rfl, Nat.le_refl _, by simp [maxLen], by simp, fun i hi => ?_⟩
 simp at hi
 have : i = 0 ∨ i = 1 := by omega
 rcases this with rfl | rfl
 ·exact ⟨_, _, u, rfl, by simp, hu.below (below_alloc _ _)⟩
 ·exact ⟨_, _, v, rfl, by simp, hv.below (below_alloc _ _)⟩
theorem flat_two (a b : List Nat) : [a, b].flatten = a ++ b := by simp
end
section
open Go.RowKit

def numsB (l : List Int) : List Nat := Wm.enc l.length ++ Wm.encAll (l.map Int.toNat)
def numsA (l : List Int) : List Nat × Nat := if ∀ x ∈ l, 0 ≤ x then (numsB l, 0) else ([], 1)
theorem encAll_append (l r : List Nat) : Wm.encAll (l ++ r) = Wm.encAll l ++ Wm.encAll r := by
 induction l with
 | nil => rfl
 | cons x l ih => simp [Wm.encAll, ih]
theorem encAll_len (l : List Nat) : (Wm.encAll l).length ≤ 10 * l.length := by
 induction l with
 | nil => simp [Wm.encAll]
 | cons x l ih =>
  have := (Wm.enc_len x).2
  simp only [Wm.encAll, List.length_append, List.length_cons]; omega
def npre (l : List Int) (k : Nat) : List Nat := Wm.enc l.length ++ Wm.encAll ((l.take k).map Int.toNat)
theorem npre_zero (l : List Int) : npre l 0 = Wm.enc l.length := by simp [npre, Wm.encAll]
theorem npre_all (l : List Int) : npre l l.length = numsB l := by simp [npre, numsB]
theorem npre_len (l : List Int) (k : Nat) (hk : k ≤ l.length) : (npre l k).length ≤ 10 + 10 * k := by
 have h1 := (Wm.enc_len l.length).2
 have h2 := encAll_len ((l.take k).map Int.toNat)
 rw [List.length_map, List.length_take] at h2
 unfold npre; rw [List.length_append]; omega
theorem npre_succ {l : List Int} {k : Nat} {x : Int} (hk : k < l.length) (hx : l.getD k 0 = x) : npre l (k + 1) = npre l k ++ Wm.enc x.toNat := by
 have e : l.getD k 0 = l[k] := by simp [List.getD, List.getElem?_eq_getElem hk]
 unfold npre
 rw [List.take_succ_eq_append_getElem hk, List.map_append, encAll_append, ← e, hx, List.append_assoc]
 simp [Wm.encAll]
def NumsRel (l : List Int) (H : Nat) (w : World) (v iv : Value) (wr : World) : Prop :=
 ∃ k : Nat, k ≤ l.length ∧ iv = .int .i64 k ∧ (∀ i, i < k → 0 ≤ l.getD i 0) ∧ wr.ownsRow H 5 1 v (npre l k).length ((ib (npre l k)).map (Value.int .u8)) ∧ Below H w wr
theorem numsrel_step {l : List Int} {H k : Nat} {w wr w1 w2 : World} {v v' : Value} {x : Int} (hk : k < l.length) (hx : l.getD k 0 = x) (h0 : 0 ≤ x) (hpos : ∀ i, i < k → 0 ≤ l.getD i 0) (hbel : Below H w wr) (hH : H ≤ wr.heap.size)
  (hb1 : Below wr.heap.size wr w1) (hown : w1.ownsRow H 5 1 v (npre l k).length ((ib (npre l k)).map (Value.int .u8)))
  (hown' : w2.ownsRow H 5 1 v' ((npre l k).length + (ib (Wm.enc x.toNat)).length) ((ib (npre l k)).map (Value.int .u8) ++ (ib (Wm.enc x.toNat)).map (Value.int .u8))) (hg : w1.grownBy w2 v.ownBlock) :
  NumsRel l H w v' (.int .i64 ((k : Int) + 1)) w2 := by
 refine ⟨k + 1, hk, rfl, ?_, ?_, hbel.trans ((hb1.mono hH).trans (grown_below hown hg (Nat.le_trans hH hb1.size)))⟩
 ·intro i hi
  by_cases h : i < k
  ·exact hpos i h
  ·obtain rfl : i = k := by omega
   rw [hx]; exact h0
 ·rw [npre_succ hk hx, List.length_append, ib_append, List.map_append]
  rw [ib_len] at hown'
  exact hown'
theorem numsA_ok {l : List Int} (h : ∀ i, i < l.length → 0 ≤ l.getD i 0) : numsA l = (numsB l, 0) := by
 unfold numsA
 rw [if_pos]
 intro x hx
 obtain ⟨i, hi, rfl⟩ := List.getElem_of_mem hx
 have := h i hi
 simpa [List.getD, List.getElem?_eq_getElem hi] using this
theorem numsA_bad {l : List Int} {k : Nat} {x : Int} (hk : k < l.length) (hx : l.getD k 0 = x) (h : x < 0) : numsA l = ([], 1) := by
 unfold numsA
 rw [if_neg]
 intro hh
 have e : l.getD k 0 = l[k] := by simp [List.getD, List.getElem?_eq_getElem hk]
 have := hh l[k] (List.getElem_mem hk)
 rw [← e, hx] at this
 omega
def NumsLeft (l : List Int) (w : World) (e : Ending) (w' : World) : Prop :=
 ∃ v', e = .returned (.tuple #[v', .int .i64 ((numsA l).2 : Nat)]) ∧ w'.ownsRow w.heap.size 5 1 v' (numsA l).1.length ((ib (numsA l).1).map (Value.int .u8)) ∧ Below w.heap.size w w'
theorem numsleft_bad {l : List Int} {k : Nat} {x : Int} {w w' : World} (hk : k < l.length) (hx : l.getD k 0 = x) (h : x < 0) (hb : Below w.heap.size w w') :
  NumsLeft l w (.returned (.tuple #[.slice none 0 0, .int .i64 1])) w' := by
 refine ⟨_, by rw [numsA_bad hk hx h]; rfl, ?_, hb⟩
 rw [numsA_bad hk hx h]
 exact World.ownsRow_nil _ _ _ _
theorem numsleft_ok {l : List Int} {v : Value} {w w' : World} (h : ∀ i, i < l.length → 0 ≤ l.getD i 0) (hown : w'.ownsRow w.heap.size 5 1 v (npre l l.length).length ((ib (npre l l.length)).map (Value.int .u8))) (hb : Below w.heap.size w w') :
  NumsLeft l w (.returned (.tuple #[v, .int .i64 0])) w' := by
 refine ⟨v, by rw [numsA_ok h]; rfl, ?_, hb⟩
 rw [numsA_ok h, ← npre_all]
 exact hown
theorem sv_cells {w : World} {b off n cap : Nat} {k : IntKind} {l : List Int} (h : Sv k w (.slice (some ⟨b, off, none⟩) n cap) l) : n = l.length ∧ l.length ≤ cap ∧ cap ≤ maxLen ∧ ∀ i, i < l.length → w.cell? ⟨b, off + i, none⟩ = some (.int k (l.getD i 0)) := by
 obtain ⟨ao, cap', e, h1, h2, h3, h4⟩ := h
 simp only [Value.slice.injEq] at e
 obtain ⟨e1, e2, rfl⟩ := e
 refine ⟨e2, h1, h2, fun i hi => ?_⟩
 obtain ⟨b', off', e3, e4⟩ := h4 i hi
 rw [← e1] at e3
 cases e3
 exact e4
theorem nums_some (l : List Int) (b off cap : Nat) (w : World) (hsz : 10 + 10 * l.length ≤ 140737488355328) (hin : ∀ x ∈ l, x < 9223372036854775808)
  (hc : ∀ i, i < l.length → w.cell? ⟨b, off + i, none⟩ = some (.int .i64 (l.getD i 0))) :
  Calls Tryz.prog 120 #[.slice (some ⟨b, off, none⟩) l.length cap] w (NumsLeft l w) := by
 have HSZ := hidH hsz
 have hle : (l.length : Int) ≤ 140737488355328 := by omega
 have HC : Hid (∀ i, i < l.length → w.cell? ⟨b, off + i, none⟩ = some (.int .i64 (l.getD i 0))) := hc
 have HIN := hidH hin
 clear hsz hc hin
 go_in
 go_wp2_with fail
 refine (put_walk l.length (by omega) _).mono ?_
 rintro e w1 ⟨v1, rfl, hown1, hbel1⟩
 have HST : Hid (NumsRel l w.heap.size w v1 (.int .i64 0) w1) := ⟨0, Nat.zero_le _, rfl, by omega, by rw [npre_zero]; exact hown1, hbel1⟩
 clear hown1 hbel1
 go_wp2_with fail
 go_loopw [4, 13] (fun v iv wr => NumsRel l w.heap.size w v iv wr) (fun _ iv _ => l.length - (intOf iv).toNat)
 case atStart => exact HST.out
 case round =>
  obtain ⟨k, hk, rfl, hpos, hown, hbel⟩ := hrel
  have HP := hidH hpos
  have hH : w.heap.size ≤ wr.heap.size := hbel.size
  clear hpos HST
  by_cases hlt : k < l.length
  ·have hcell0 := HC.out k hlt
   obtain ⟨x, hx⟩ : ∃ x, l.getD k 0 = x := ⟨_, rfl⟩
   have HXi : Hid (l.getD k 0 = x) := hx
   have hcell : wr.cell? ⟨b, off + k, none⟩ = some (.int .i64 x) := by rw [hbel.cell (p := ⟨b, off + k, none⟩) (cell_lt hcell0), hcell0, hx]
   have HXL : Hid (x < 9223372036854775808) := by
    show x < _
    rw [← hx]
    have e : l.getD k 0 = l[k] := by simp [List.getD, List.getElem?_eq_getElem hlt]
    rw [e]; exact HIN.out _ (List.getElem_mem hlt)
   clear hcell0 hx
   by_cases h0 : x < 0
   ·go_wp2_with fail
    go_ret2
    exact numsleft_bad hlt HXi.out h0 hbel
   ·obtain ⟨y, rfl⟩ : ∃ y : Nat, x = (y : Int) := ⟨x.toNat, by omega⟩
    have hyl : (y : Int) ≤ 9223372036854775807 := by have := HXL.out; omega
    go_wp2_with fail
    refine (put_walk y (by omega) _).mono ?_
    rintro e w2 ⟨v2, rfl, hown2, hbel2⟩
    have hown3 := own_below hown hbel2
    have hsv : Hid (Sv .u8 w2 v2 (ib (Wm.enc y))) := own_sv hown2
    have HBD : Hid ((npre l k).length + (ib (Wm.enc y)).length ≤ 140737488355328) := by
     have h1 := npre_len l k hk
     have h2 := (Wm.enc_len y).2
     have := HSZ.out
     rw [ib_len]
     show _ ≤ _
     omega
    have hs2 : w.heap.size ≤ w2.heap.size := Nat.le_trans hH hbel2.size
    clear hown2
    go_wp2_with (at_builtin; refine wpList_append_sv (by rfl) (.tmp 19) (.tmp 22) 78 (by rfl) w.heap.size 5 .u8 1 Tryz.underlying78 info_u8 _ _ _ (by rfl) hown3 _ _ (by rfl) hsv.out (by have := HBD.out; simp only [maxLen]; omega) (by have := HBD.out; omega) hs2 ?_; intro v' w3 hown' hgrow)
    have R := numsrel_step hlt HXi.out (by omega) HP.out hbel hH hbel2 hown3 (by simpa using hown') hgrow
    clear hown' hgrow hown3 hbel2
    go_wp2
    go_roundw
    case rel => exact R
    case measure => simp [intOf]; omega
  ·obtain rfl : k = l.length := by omega
   have HO := hidH hown
   clear hown
   go_wp2_with fail
   go_ret2
   exact numsleft_ok HP.out HO.out hbel
theorem nums_none (ao : Option Addr) (cap : Nat) (w : World) :
  Calls Tryz.prog 120 #[.slice ao 0 cap] w (NumsLeft [] w) := by
 go_in
 go_wp2_with fail
 refine (put_walk 0 (by omega) _).mono ?_
 rintro e w1 ⟨v1, rfl, hown1, hbel1⟩
 have HO := hidH hown1
 clear hown1
 go_wp2_with fail
 refine wp_loop_rounds 1 ?_
 rw [rounds_succ]
 go_wp2_with fail
 go_ret2
 exact numsleft_ok (by simp) HO.out hbel1
theorem nums_walk {w : World} {v : Value} {l : List Int} (h : Sv .i64 w v l) (hsz : 10 + 10 * l.length ≤ 140737488355328) (hin : ∀ x ∈ l, x < 9223372036854775808) :
  Calls Tryz.prog 120 #[v] w (NumsLeft l w) := by
 have h' := h
 obtain ⟨ao, cap, rfl, h1, h2, h3, h4⟩ := h
 by_cases h0 : l = []
 ·subst h0; exact nums_none ao cap w
 ·obtain ⟨b, off, rfl, _⟩ := h4 0 (List.length_pos_iff.2 h0)
  exact nums_some l b off cap w hsz hin (sv_cells h').2.2.2
end
end Go.Proofs.YtofkhgokfdpdiabGreat
