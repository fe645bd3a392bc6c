/- A root as bytes and back: bytes, areBlocks, takeRoot; write. -/
import Derived.Test.YtcmklbibehnloaaGreatB17
set_option maxRecDepth 100000
set_option maxHeartbeats 16000000
namespace Go.Proofs.YtcmklbibehnloaaGreat
open Go.RowKit
def loadS (ls : List (List Nat)) : Dk := ⟨ls, false, -1, 0, 0⟩
theorem ok_load {ls : List (List Nat)} (h1 : 1 ≤ ls.length) (h64 : ls.length ≤ 64) (hl : ∀ b ∈ ls, b.length ≤ 1024) (hb : ∀ b ∈ ls, ∀ c ∈ b, c < 256) : (loadS ls).ok := ⟨h1, h64, hl, hb, Int.le_refl _, by show (-1 : Int) < _; omega⟩
theorem ok_new {n : Nat} (h1 : 1 ≤ n) (h64 : n ≤ 64) : (loadS (List.replicate n [])).ok :=
 ok_load (by simpa using h1) (by simpa using h64) (fun b hb => by rw [(List.mem_replicate.1 hb).2]; simp) (fun b hb c hc => by rw [(List.mem_replicate.1 hb).2] at hc; simp at hc)
theorem Gr.fit {E : Nat → Prop} {w : World} {g cap : Nat} {ls : List (List Nat)} (h : Gr E w g cap ls) : Gr (fun x => E x ∧ x < w.heap.size) w g cap ls := by
 obtain ⟨⟨cur, h1, h2, h3⟩, h4⟩ := h;refine ⟨⟨cur, h1, h2, fun i hi => ?_⟩, h4⟩;obtain ⟨u, a, b, c⟩ := h3 i hi;exact ⟨u, a, b, fun x hx => ⟨c x hx, (b.lt x hx).2⟩⟩
def Nw (T : TypeId) (w : World) (ls : List (List Nat)) (e : Ending) (w' : World) : Prop :=
 ∃ (v : Value) (D : Nat → Prop), e = .returned (.tuple #[v, .int .i64 0]) ∧ Dsk T D w' v (loadS ls) ∧ Below w.heap.size w w' ∧ ∀ x, D x → w.heap.size ≤ x
theorem nw_end {T : TypeId} {w wz : World} {ls : List (List Nat)} {g cap : Nat} (hok : (loadS ls).ok) (hG : Gr (fun x => w.heap.size ≤ x) wz g cap ls) (hg : w.heap.size ≤ g) (hB : Below w.heap.size w wz) :
  Nw T w ls (.returned (.tuple #[.pointer (some ⟨wz.heap.size, 0, none⟩), .int .i64 0])) (wz.alloc (.cells #[.slice (some ⟨g, 0, none⟩) ls.length cap, .bool false, .int .i64 (-1), .int .i64 0, .int .i64 0] T)) := by
 refine ⟨_, fun x => w.heap.size ≤ x ∧ x < wz.heap.size + 1, rfl, ⟨_, g, cap, rfl, ⟨heap_alloc_new wz _, ?_, ?_, ⟨hB.size, by omega⟩, ⟨hg, ?_⟩, fun x hx => by simpa [go_sem] using hx.2⟩, hok⟩, below_trans hB (below_alloc _ _), fun x hx => hx.1⟩
 ·exact (hG.fit.below (below_alloc _ _)).mono (fun x hx => ⟨⟨hx.1, by omega⟩, by omega⟩)
 ·have := hG.lt; omega
 ·have := hG.lt; omega
theorem new_walk {n : Nat} {w : World} (h1 : 1 ≤ n) (h64 : n ≤ 64) : Calls Tryz.prog 8 #[.int .i64 n] w fun e w' => Nw 92 w (List.replicate n []) e w' := by
 have hmk := make_rows h64;obtain ⟨Z, hZ⟩ : ∃ Z, Z = madeCells #[.slice none 0 0] (n * 1) := ⟨_, rfl⟩;rw [← hZ] at hmk;have HG : Hid (Gr (fun x => w.heap.size ≤ x) (w.alloc (.cells Z 78)) w.heap.size n (List.replicate n [])) := made_gr _ w h64 hZ;have HK : Hid ((loadS (List.replicate n [])).ok) := ok_new h1 h64;have hi1 : (1 : Int) ≤ n := by omega
 have hi2 : (n : Int) ≤ 64 := by omega
 clear hZ h1 h64;go_in;go_wp2_with fail;go_ret2;have := nw_end (T := 92) HK.out HG.out (Nat.le_refl _) (below_alloc w _);rw [List.length_replicate] at this;simpa [go_sem] using this
def longB (ls : List (List Nat)) : Bool := ls.any fun b => decide (1024 < b.length)
theorem long_yes {ls : List (List Nat)} {b : List Nat} (hb : b ∈ ls) (h : 1024 < b.length) : longB ls = true := List.any_eq_true.2 ⟨b, hb, by simpa using h⟩
def LdRel (ls : List (List Nat)) (w : World) (iv : Value) (wr : World) : Prop := ∃ k : Nat, k ≤ ls.length ∧ iv = .int .i64 k ∧ (∀ i, i < k → (bk ls i).length ≤ 1024) ∧ wr = w
theorem load_bad {v : Value} {ls : List (List Nat)} {w : World} (hv : PvD w v ls) (hp : ls.length < 1 ∨ 64 < ls.length) : Calls Tryz.prog 25 #[v] w fun e w' => e = .returned (.tuple #[.pointer none, .int .i64 1]) ∧ w' = w := by
 obtain ⟨ao, cap, rfl, _, _⟩ := hv.form;by_cases h1 : ls.length < 1
 ·have h0 : ls.length = 0 := by omega
  rw [h0];clear hp hv;go_in;go_wp2_with fail;go_ret2;exact ⟨rfl, rfl⟩
 ·have h4 : 64 < (ls.length : Int) := by omega
  have h5 : 1 ≤ (ls.length : Int) := by omega
  clear hp hv h1;go_in;go_wp2_with fail;go_ret2;exact ⟨rfl, rfl⟩
def Ld (T : TypeId) (w : World) (ls : List (List Nat)) (e : Ending) (w' : World) : Prop := if longB ls = true then e = .returned (.tuple #[.pointer none, .int .i64 6]) ∧ w' = w else Nw T w ls e w'
theorem load_walk {v : Value} {ls : List (List Nat)} {w : World} (hv : PvD w v ls) (h1 : 1 ≤ ls.length) (h64 : ls.length ≤ 64) : Calls Tryz.prog 25 #[v] w fun e w' => Ld 92 w ls e w' := by
 have HV : Hid (PvD w v ls) := hv;obtain ⟨ao, cap, rfl, q1, q2, q3, q4⟩ := hv;obtain ⟨b, off, u, rfl, _, _⟩ := q4 0 (by omega)
 have HC : Hid (∀ i, i < ls.length → ∃ u, w.cell? ⟨b, off + i, none⟩ = some u ∧ Bv w u (bk ls i)) := fun i hi => by
  obtain ⟨b', off', u', e1, e2, e3⟩ := q4 i hi
  cases e1
  exact ⟨u', e2, e3⟩
 have H1 : Hid (1 ≤ ls.length) := h1;have H64 : Hid (ls.length ≤ 64) := h64;have HBY : Hid (∀ b ∈ ls, ∀ c ∈ b, c < 256) := HV.out.bytes;have hi1 : (1 : Int) ≤ (ls.length : Int) := by omega
 have hi2 : (ls.length : Int) ≤ 64 := by omega
 have HLD : Hid (∀ e w', (longB ls = true → e = .returned (.tuple #[.pointer none, .int .i64 6]) ∧ w' = w) → (longB ls = false → Nw 92 w ls e w') → Ld 92 w ls e w') := by
  intro e w' a b;unfold Ld
  split
  ·rename_i hh; exact a hh
  ·rename_i hh; exact b (by simpa using hh)
 clear q1 q2 q3 q4 h1;go_in;go_wp2_with fail;go_loopw [16] (fun iv wr => LdRel ls w iv wr) (fun iv _ => ls.length - (intOf iv).toNat)
 case atStart => exact ⟨0, Nat.zero_le _, rfl, fun i hi => by omega, rfl⟩
 case round =>
  obtain ⟨k, hk, rfl, hsm, hw⟩ := hrel;subst hw;have HSM := hidH hsm;clear hsm;by_cases hlt : k < ls.length
  ·obtain ⟨u, hu, hbu⟩ := HC.out k hlt;obtain ⟨p, hp⟩ : ∃ p, bk ls k = p := ⟨_, rfl⟩;rw [hp] at hbu;have HP : Hid (bk ls k = p) := hp;obtain ⟨a, c, rfl, _, _⟩ := bv_formD hbu;clear hp hbu;by_cases hpl : p.length ≤ 1024
   ·have hpi : decide ((1024 : Int) < (p.length : Int)) = false := decide_eq_false (by omega);have hpi2 : ¬ (1024 : Int) < (p.length : Int) := by omega
    have HPL : Hid (p.length ≤ 1024) := hpl;clear hpl;go_wp2_with fail;go_roundw
    case rel =>
     refine ⟨k + 1, hlt, rfl, fun i hi => ?_, rfl⟩;by_cases e : i = k
     ·rw [e, HP.out]; exact HPL.out
     ·exact HSM.out i (by omega)
    case measure => simp [intOf]; omega
   ·have hpi : (1024 : Int) < (p.length : Int) := by omega
    have HPL : Hid (1024 < p.length) := by show _ < _; omega
    clear hpl;go_wp2_with fail
    (try simp only [Exit.inBlock, Exit.then])
    go_ret2;refine HLD.out _ _ (fun _ => ⟨rfl, rfl⟩) fun h => ?_;exfalso;have h2 := long_yes (bk_mem hlt) (by rw [HP.out]; exact HPL.out);rw [h] at h2; cases h2
  ·obtain rfl : k = ls.length := by omega
   have HL : Hid (∀ b ∈ ls, b.length ≤ 1024) := by
    intro x hx;obtain ⟨i, hi, rfl⟩ := List.getElem_of_mem hx;rw [← bk_at hi]; exact HSM.out i hi
   go_wp2_with fail;refine (copied_walk HV.out H1.out H64.out HL.out).mono ?_;rintro e w1 ⟨g, cap1, rfl, hG, hge, hB⟩;go_wp2_with fail;go_ret2;refine HLD.out _ _ (fun h => ?_) fun _ => ?_
   ·exfalso;obtain ⟨x, hx, h2⟩ := List.any_eq_true.1 h;have := HL.out x hx;simp at h2; omega
   ·exact nw_end (ok_load H1.out H64.out HL.out HBY.out) hG hge hB

section
section

variable {T : TypeId} {D D' : Nat → Prop} {w w' : World} {v : Value} {g i : Nat} {u : Value} {S : Dk} {ls : List (List Nat)} {b : List Nat}

theorem ref_in {k : Nat} (hd : S.down = false) (hk : k < S.bl.length) : refI S k = 0 := by unfold refI; rw [hd, if_neg (by simp), if_neg (by omega)]
theorem write_in {k : Nat} (hd : S.down = false) (hk : k < S.bl.length) (hl : S.left ≠ 0) (hb : b.length ≤ 1024) : writeI S k b = 0 ∧ writeS S k b = putS S k b := by
 have hr := ref_in hd hk;exact ⟨by unfold writeI; rw [if_neg (fun e => e hr), if_neg (by omega), if_neg hl], by unfold writeS; rw [if_neg (fun e => e hr), if_neg (by omega), if_neg hl]; simp⟩
theorem read_in {k : Nat} (hd : S.down = false) (hk : k < S.bl.length) : refI S k = 0 ∧ readL S k = bk S.bl k ∧ readS S k = { S with rd := S.rd + 1 } := by
 have hr := ref_in hd hk;exact ⟨hr, by unfold readL; rw [if_pos hr]; simp, by unfold readS; rw [if_pos hr]⟩
end
end
def Tw (w : World) (v : Value) (t : List Nat) : Prop := Sv .i64 w v (ib t)
theorem ib_at {t : List Nat} {i : Nat} (h : i < t.length) : (ib t).getD i 0 = (tn t i : Nat) := by
 unfold ib tn; simp [List.getD, h]
theorem Tw.below {w w' : World} {v : Value} {t : List Nat} (h : Tw w v t) (hb : Below w.heap.size w w') : Tw w' v t := Sv.below h hb
theorem Tw.form {w : World} {v : Value} {t : List Nat} (h : Tw w v t) : ∃ ao cap, v = .slice ao t.length cap ∧ t.length ≤ cap ∧ cap ≤ maxLen := by
 obtain ⟨ao, cap, rfl, h1, h2, h3, h4⟩ := h;rw [ib_len] at h1 ⊢;exact ⟨ao, cap, rfl, h1, h2⟩
theorem Tw.at {w : World} {ao : Option Addr} {n cap : Nat} {t : List Nat} (h : Tw w (.slice ao n cap) t) {i : Nat} (hi : i < t.length) : ∃ b off, ao = some ⟨b, off, none⟩ ∧ w.cell? ⟨b, off + i, none⟩ = some (.int .i64 (tn t i : Nat)) := by
 obtain ⟨ao', cap', e, h1, h2, h3, h4⟩ := h;simp only [Value.slice.injEq] at e;obtain ⟨b, off, e1, e2⟩ := h4 i (by rw [ib_len]; exact hi);rw [ib_at hi] at e2;exact ⟨b, off, e.1.trans e1, e2⟩
theorem index_walk {w : World} {v : Value} {t : List Nat} (h : Tw w v t) (x : Nat) :
  Calls Tryz.prog 229 #[v, .int .i64 x] w fun e w' => (∃ r : Int, e = .returned (.int .i64 r) ∧ ((0 ≤ r ∧ x ∈ t) ∨ (r = -1 ∧ x ∉ t))) ∧ w' = w := by
 have HT : Hid (Tw w v t) := h;obtain ⟨ao, cap, rfl, h1, h2⟩ := h.form;have hli : (t.length : Int) ≤ 9223372036854775807 := by simp only [maxLen] at h2; omega
 clear h h1 h2;go_in;go_wp2_with fail;go_loop [8] (fun iv => ∃ k : Nat, k ≤ t.length ∧ iv = .int .i64 k ∧ ∀ i, i < k → tn t i ≠ x) (fun iv => t.length - (intOf iv).toNat)
 case atStart => exact ⟨0, Nat.zero_le _, rfl, fun i hi => by omega⟩
 case round =>
  obtain ⟨k, hk, rfl, hsm⟩ := hrel;have HSM := hidH hsm;clear hsm;by_cases hlt : k < t.length
  ·obtain ⟨b, off, rfl, hc⟩ := HT.out.at hlt;obtain ⟨y, hy⟩ : ∃ y, y = tn t k := ⟨_, rfl⟩;rw [← hy] at hc;have HY : Hid (y = tn t k) := hy;have hlti : (k : Int) < (t.length : Int) := by omega
   clear hy;by_cases he : x = y
   ·have heb : ((x : Int) == (y : Int)) = true := by simp [he]
    have HE : Hid (x = y) := he;clear he;go_wp2_with fail
    (try simp only [Exit.inBlock, Exit.then])
    go_ret;exact ⟨⟨_, rfl, .inl ⟨by omega, by rw [HE.out, HY.out]; exact tn_mem hlt⟩⟩, rfl⟩
   ·have heb : ((x : Int) == (y : Int)) = false := by simp; omega
    have HE : Hid (x ≠ y) := he;clear he;go_wp2_with fail;go_round
    case rel =>
     refine ⟨k + 1, hlt, by simp, fun i hi => ?_⟩;by_cases e : i = k
     ·rw [e, ← HY.out]; exact fun e => HE.out e.symm
     ·exact HSM.out i (by omega)
    case measure => simp [intOf]; omega
  ·have hlti : ¬ (k : Int) < (t.length : Int) := by omega
   go_wp2_with fail;go_ret;refine ⟨⟨_, rfl, .inr ⟨rfl, fun hm => ?_⟩⟩, rfl⟩;obtain ⟨i, hi, e⟩ := List.getElem_of_mem hm;exact HSM.out i (by omega) (by rw [tn_at hi]; exact e)
theorem contains_walk {w : World} {v : Value} {t : List Nat} (h : Tw w v t) (x : Nat) :
  Calls Tryz.prog 198 #[v, .int .i64 x] w fun e w' => e = .returned (.bool (decide (x ∈ t))) ∧ w' = w := by
 have HT : Hid (Tw w v t) := h;clear h;by_cases hx : x ∈ t
 ·rw [decide_eq_true hx];have HX : Hid (x ∈ t) := hx;clear hx;go_in;go_wp2_with fail;refine (index_walk HT.out x).mono ?_;rintro e w1 ⟨⟨r, rfl, hr⟩, h9⟩;have h9 := h9.symm;subst h9
  have hr0 : 0 ≤ r := by
   rcases hr with h | h
   ·exact h.1
   ·exact absurd HX.out h.2
  clear hr;go_wp2_with fail;go_ret;exact ⟨rfl, rfl⟩
 ·rw [decide_eq_false hx];have HX : Hid (x ∉ t) := hx;clear hx;go_in;go_wp2_with fail;refine (index_walk HT.out x).mono ?_;rintro e w1 ⟨⟨r, rfl, hr⟩, h9⟩;have h9 := h9.symm;subst h9
  have hr0 : r = -1 := by
   rcases hr with h | h
   ·exact absurd h.2 HX.out
   ·exact h.1
  clear hr;subst hr0;go_wp2_with fail;go_ret;exact ⟨rfl, rfl⟩
theorem clonet_walk {v : Value} {t : List Nat} {w : World} (ho : Tw w v t) (hl : t.length ≤ 8) :
  Calls Tryz.prog 159 #[v] w fun e w' => ∃ v', e = .returned v' ∧ w'.ownsRow w.heap.size 3 1 v' t.length ((ib t).map (Value.int .i64)) ∧ Below w.heap.size w w' := by
 have HO : Hid (Tw w v t) := ho;obtain ⟨ao, cap, rfl, h1, h2, h3, _⟩ := ho;rw [ib_len] at h1;rw [ib_len] at HO ⊢;have HL : Hid (t.length ≤ 8) := hl;have H3 : Hid (ao = none → cap = 0) := h3;have H1 : Hid (t.length ≤ cap) := h1;have q : ∀ (w : World) (a : Option Addr) (n c : Nat), (binOp .eql 129 (.slice a n c) (.slice none 0 0)).run Tryz.prog w = .ok (.bool a.isNone) w := fun w a n c => Lib.run_eql_slice_nil w 129 3 a n c 0 0 Tryz.underlying129;clear hl h1 h2 h3
 cases ao with
 | none =>
  have hc := H3.out rfl;subst hc;have hl0 : t.length = 0 := by have := H1.out; omega
  have hl : t = [] := List.eq_nil_of_length_eq_zero hl0;subst hl;rw [List.length_nil];go_in;go_wp2_with fail;go_ret;exact ⟨_, rfl, World.ownsRow_nil _ _ _ _, below_same _⟩
 | some p =>
  go_in;go_wp2_with (at_builtin; refine wpList_append_sv (by rfl) _ _ 129 (by rfl) w.heap.size 3 .i64 8 Tryz.underlying129 info_i64 _ 0 [] (by rfl) (World.ownsRow_made w #[] 0 (Nat.le_refl _) (by simp [maxLen]) (by simp)) _ (ib t) (by rfl) (HO.out.below (below_alloc _ _)) (by have := HL.out; rw [ib_len]; simp [maxLen]; omega) (by have := HL.out; rw [ib_len]; omega) (by simp) ?_; intro v' w2 hown hgrow; go_frame);go_ret;refine ⟨_, rfl, by rw [ib_len] at hown; simpa using hown, ?_⟩;exact (below_alloc w (Obj.cells #[] 3)).grown hgrow (by simp) (by simp [Value.ownBlock])
theorem bfor_walk {w : World} (n : Nat) (h : n ≤ 64) : Calls Tryz.prog 84 #[.int .i64 n] w fun e w' => e = .returned (.int .i64 (2 + 2 * (n : Int))) ∧ w' = w := by
 have r1 : IntKind.i64.wrap (2 * (n : Int)) = 2 * (n : Int) := wrapU (by omega) (by omega);have r2 : IntKind.i64.wrap (2 + 2 * (n : Int)) = 2 + 2 * (n : Int) := wrapU (by omega) (by omega);clear h;go_in;go_wp2_with fail;go_ret;exact ⟨rfl, rfl⟩
def hasB (n : Nat) (p : Int) : Bool := decide (0 ≤ p ∧ p < (n : Int))
theorem has_walk {w : World} {v : Value} {t : List Nat} (g : Nat) (h : Tw w v t) (p : Int) :
  Calls Tryz.prog 158 #[.agg #[.int .u64 g, v], .int .i64 p] w fun e w' => e = .returned (.bool (hasB t.length p)) ∧ Below w.heap.size w w' := by
 obtain ⟨ao, cap, rfl, h1, h2⟩ := h.form;clear h h1 h2;by_cases h0 : 0 ≤ p
 ·by_cases hn : p < (t.length : Int)
  ·have HR : Hid (hasB t.length p = true) := decide_eq_true ⟨h0, hn⟩;rw [HR.out];go_in;go_wp2_with fail;go_ret;exact ⟨rfl, below_alloc _ _⟩
  ·have HR : Hid (hasB t.length p = false) := decide_eq_false (fun e => hn e.2);rw [HR.out];have hn2 : (t.length : Int) ≤ p := by omega
   have hd : decide (p < (t.length : Int)) = false := decide_eq_false hn;clear hn;go_in;go_wp2_with fail;go_ret;exact ⟨rfl, below_alloc _ _⟩
 ·have HR : Hid (hasB t.length p = false) := decide_eq_false (fun e => h0 e.1);rw [HR.out];go_in;go_wp2_with fail;go_ret;exact ⟨rfl, below_alloc _ _⟩
theorem behind_walk {w : World} {v : Value} {t : List Nat} (g : Nat) (h : Tw w v t) (ht : ∀ x ∈ t, x < 64) {b : Nat} (hb : b < 64) :
  Calls Tryz.prog 160 #[.agg #[.int .u64 g, v], .int .i64 b] w fun e w' => e = .returned (.int .i64 (nextF t b : Nat)) ∧ Below w.heap.size w w' := by
 obtain ⟨w0, hw0⟩ : ∃ w0, w0 = w.alloc (Obj.cells #[.int .u64 g, v] 131) := ⟨_, rfl⟩;have HB0 : Hid (Below w.heap.size w w0) := by show Below _ _ _; rw [hw0]; exact below_alloc _ _
 have HT : Hid (Tw w0 v t) := h.below HB0.out;have HW0 : Hid (w0 = w.alloc (Obj.cells #[.int .u64 g, v] 131)) := hw0;have c1 : w0.cell? ⟨w.heap.size, 1, none⟩ = some v := by rw [hw0]; simp [go_sem]
 have HTL : Hid (∀ x ∈ t, x < 64) := ht;clear h hw0 ht;go_in;go_wp2_with fail;rw [← HW0.out];go_loop [1] (fun iv => ∃ k : Nat, k ≤ 64 ∧ iv = .int .i64 k ∧ b < k ∧ ∀ y, b < y → y < k → y ∈ t) (fun iv => 65 - (intOf iv).toNat)
 case atStart => exact ⟨b + 1, by omega, by simp, by omega, fun y h1 h2 => by omega⟩
 case round =>
  obtain ⟨k, hk, rfl, hbk, hm⟩ := hrel;have HM := hidH hm;clear hm;go_wp2_with fail;refine (contains_walk HT.out k).mono ?_;rintro e w1 ⟨rfl, h9⟩;have h9 := h9.symm;subst h9;by_cases hx : k ∈ t
  ·have HX : Hid (k ∈ t) := hx;have hk2 : k < 64 := HTL.out k hx;rw [decide_eq_true hx];clear hx;go_wp2_with fail;go_round
   case rel =>
    refine ⟨k + 1, by omega, by simp, by omega, fun y h1 h2 => ?_⟩;by_cases e : y = k
    ·rw [e]; exact HX.out
    ·exact HM.out y h1 (by omega)
   case measure => simp [intOf]; omega
  ·have HX : Hid (nextF t b = k) := next_is HTL.out hbk hx HM.out;rw [decide_eq_false hx];clear hx;go_wp2_with fail;go_ret;exact ⟨by rw [HX.out]; rfl, HB0.out⟩
theorem nums_tab (t : List Nat) : numsA (ib t) = (Wm.enc t.length ++ Wm.encAll t, 0) := by
 rw [numsA_ok (fun i hi => by rw [ib_len] at hi; rw [ib_at hi]; omega)];unfold numsB;rw [ib_len]
 have : (ib t).map Int.toNat = t := by
  induction t with
  | nil => rfl
  | cons a l ih => unfold ib at ih ⊢; simp only [List.map_cons, Int.toNat_natCast]; rw [ih]
 rw [this]
theorem ib_lt {t : List Nat} (h : ∀ x ∈ t, x < 64) : ∀ x ∈ ib t, x < 9223372036854775808 := by
 intro x hx;obtain ⟨y, hy, rfl⟩ := List.mem_map.1 hx;have := h y hy;omega
def Rb (w : World) (g : Nat) (t : List Nat) (e : Ending) (w' : World) : Prop := ∃ v, e = .returned v ∧ w'.ownsRow w.heap.size 5 1 v (rootB g t).length (cb (rootB g t)) ∧ Below w.heap.size w w'
theorem bytes_walk {w : World} {v : Value} {t : List Nat} {g : Nat} (h : Tw w v t) (h8 : t.length ≤ 8) (ht : ∀ x ∈ t, x < 64) (hg : g < 18446744073709551616) :
  Calls Tryz.prog 87 #[.agg #[.int .u64 g, v]] w fun e w' => Rb w g t e w' := by
 obtain ⟨w0, hw0⟩ : ∃ w0, w0 = w.alloc (Obj.cells #[.int .u64 g, v] 131) := ⟨_, rfl⟩;have HB0 : Hid (Below w.heap.size w w0) := by show Below _ _ _; rw [hw0]; exact below_alloc _ _
 have HT : Hid (Tw w0 v t) := h.below HB0.out;have HW0 : Hid (w0 = w.alloc (Obj.cells #[.int .u64 g, v] 131)) := hw0;have c1 : w0.cell? ⟨w.heap.size, 1, none⟩ = some v := by rw [hw0]; simp [go_sem]
 have HC0 : Hid (w0.cell? ⟨w.heap.size, 0, none⟩ = some (.int .u64 g)) := by show _ = _; rw [hw0]; simp [go_sem]
 have HN : Hid (10 + 10 * (ib t).length ≤ 140737488355328) := by show _ ≤ _; rw [ib_len]; omega
 have HTL : Hid (∀ x ∈ ib t, x < 9223372036854775808) := ib_lt ht;have HTB : Hid (∀ x ∈ t, x < 64) := ht;have HG := hidH hg;have HRS : Hid ((rootB g t).length ≤ 100) := root_short h8;have H8 : Hid (t.length ≤ 8) := h8;clear h hw0 ht hg h8;go_in;go_wp2_with fail;rw [← HW0.out];refine (nums_walk HT.out HN.out HTL.out).mono ?_;rintro e w1 ⟨v1, rfl, ho1, hB1⟩;rw [nums_tab] at ho1 ⊢;have HB1 := hidH (below_trans HB0.out hB1);have c0 : w1.cell? ⟨w.heap.size, 0, none⟩ = some (.int .u64 g) := by rw [hB1.cell (p := ⟨w.heap.size, 0, none⟩) (cell_lt HC0.out)]; exact HC0.out
 have HV1 : Hid (Bv w1 v1 (Wm.enc t.length ++ Wm.encAll t)) := own_bv ho1 (fun c hc => by
  rcases List.mem_append.1 hc with hc | hc
  ·exact Wm.enc_lt _ (by have := H8.out; omega) c hc
  ·exact encAll_ltP t (fun x hx => by have := HTB.out x hx; omega) c hc)
 clear ho1 hB1 c1;go_wp2_with fail;refine (put_walk g HG.out _).mono ?_;rintro e w2 ⟨v2, rfl, ho2, hB2⟩;have HV2 : Hid (Bv w2 v2 (Wm.enc g)) := own_bv ho2 (Wm.enc_lt g HG.out);have HB2 := hidH hB2;clear ho2 hB2;obtain ⟨a1, k1, e1, _⟩ := bv_formD HV1.out;obtain ⟨a2, k2, e2, _⟩ := bv_formD HV2.out;obtain ⟨L, hL⟩ : ∃ L, L = Wm.enc t.length ++ Wm.encAll t := ⟨_, rfl⟩;rw [← hL] at e1;obtain ⟨n1, hn1⟩ : ∃ n, n = L.length := ⟨_, rfl⟩;obtain ⟨n2, hn2⟩ : ∃ n, n = (Wm.enc g).length := ⟨_, rfl⟩;rw [← hn1] at e1;rw [← hn2] at e2;clear hn1 hn2 hL;subst e1;subst e2;go_wp2_with fail;refine (join_walk (pv_two 78 HV2.out (HV1.out.below HB2.out)) (by rw [flat_two]; exact Nat.le_trans HRS.out (by omega))).mono ?_;rintro e w3 ⟨v3, rfl, ho3, hB3⟩;rw [flat_two] at ho3;have HB3 : Hid (Below w.heap.size w w3) := below_trans (below_trans HB1.out HB2.out) (below_trans (below_alloc _ _) hB3);have HO3 : Hid (w3.ownsRow w.heap.size 5 1 v3 (rootB g t).length (cb (rootB g t))) := own_base ho3 (by have h1 := HB1.out.size; have h2 := HB2.out.size; simp; omega);clear ho3 hB3;go_wp2_with fail;go_ret;exact ⟨_, rfl, HO3.out, HB3.out⟩
theorem Tw.first {w : World} {ao : Option Addr} {n cap : Nat} {t : List Nat} (h : Tw w (.slice ao n cap) t) {k : Nat} (hk : k ≤ t.length) : Tw w (.slice ao k cap) (t.take k) := by
 obtain ⟨ao', cap', e, h1, h2, h3, h4⟩ := h;simp only [Value.slice.injEq] at e;obtain ⟨e1, e2, e3⟩ := e;subst e1 e3;rw [ib_len] at h1;refine ⟨ao, cap, by rw [ib_len, List.length_take, Nat.min_eq_left hk], by rw [ib_len, List.length_take]; omega, h2, h3, fun i hi => ?_⟩;rw [ib_len, List.length_take] at hi;obtain ⟨b, off, e, c⟩ := h4 i (by rw [ib_len]; omega);refine ⟨b, off, e, ?_⟩;rw [c, ib_at (by omega), ib_at (by rw [List.length_take]; omega)];unfold tn;simp [List.getD, show i < k by omega]
theorem are_walk {w : World} {v : Value} {t : List Nat} (h : Tw w v t) (h8 : t.length ≤ 64) {B : Nat} (hB : B ≤ 64) :
  Calls Tryz.prog 164 #[v, .int .i64 B] w fun e w' => e = .returned (.bool (tabBP t B)) ∧ w' = w := by
 have HT : Hid (Tw w v t) := h;obtain ⟨ao, cap, rfl, h1, h2⟩ := h.form;have H8 : Hid (t.length ≤ 64) := h8;have hli : (t.length : Int) ≤ 64 := by omega
 have hcap : (t.length : Int) ≤ (cap : Int) := by omega
 clear h h1 h2 h8;by_cases hl1 : t.length < 1
 ·have HR : Hid (tabBP t B = false) := tab_no (fun e => by have := e.1; omega);rw [HR.out];have h0 : t.length = 0 := by omega
  rw [h0];clear hl1;go_in;go_wp2_with fail;go_ret;exact ⟨rfl, rfl⟩
 ·by_cases hl2 : B < 2 + 2 * t.length
  ·have HR : Hid (tabBP t B = false) := tab_no (fun e => by have := e.2.1; omega);rw [HR.out];have hi1 : 1 ≤ (t.length : Int) := by omega
   have hi2 : (B : Int) < 2 + 2 * (t.length : Int) := by omega
   have hd1 : decide ((t.length : Int) < 1) = false := decide_eq_false (by omega);clear hl1 hl2;go_in;go_wp2_with fail;refine (bfor_walk t.length H8.out).mono ?_;rintro e w1 ⟨rfl, h9⟩;have h9 := h9.symm;subst h9;go_wp2_with fail;go_ret;exact ⟨rfl, rfl⟩
  ·have hi1 : 1 ≤ (t.length : Int) := by omega
   have hi2 : 2 + 2 * (t.length : Int) ≤ (B : Int) := by omega
   have hd1 : decide ((t.length : Int) < 1) = false := decide_eq_false (by omega);have HL : Hid (1 ≤ t.length ∧ 2 + 2 * t.length ≤ B) := ⟨by omega, by omega⟩;have HRY : Hid ((∀ i, i < t.length → Cok t B i) → tabBP t B = true) := fun hh => tab_yes ⟨HL.out.1, HL.out.2, hh⟩;have HRN : Hid (∀ i, i < t.length → ¬ Cok t B i → tabBP t B = false) := fun i hi hn => tab_no (fun e => hn (e.2.2 i hi));clear hl1 hl2;go_in;go_wp2_with fail;refine (bfor_walk t.length H8.out).mono ?_;rintro e w1 ⟨rfl, h9⟩;have h9 := h9.symm;subst h9;go_wp2_with fail;go_loop [19] (fun iv => ∃ k : Nat, k ≤ t.length ∧ iv = .int .i64 k ∧ ∀ i, i < k → Cok t B i) (fun iv => t.length - (intOf iv).toNat)
   case atStart => exact ⟨0, Nat.zero_le _, rfl, fun i hi => by omega⟩
   case round =>
    obtain ⟨k, hk, rfl, hsm⟩ := hrel;have HSM := hidH hsm;clear hsm;by_cases hlt : k < t.length
    ·obtain ⟨b, off, rfl, hc⟩ := HT.out.at hlt;obtain ⟨y, hy⟩ : ∃ y, y = tn t k := ⟨_, rfl⟩;rw [← hy] at hc;have HY : Hid (y = tn t k) := hy
     have HNX : Hid (Cok t B k → ∀ i, i < k + 1 → Cok t B i) := fun hh i hi => by
      by_cases e : i = k
      ·rw [e]; exact hh
      ·exact HSM.out i (by omega)
     have hlti : (k : Int) < (t.length : Int) := by omega
     have hkc : (k : Int) ≤ (cap : Int) := by omega
     have HC1 : Hid (Tw w (.slice (some ⟨b, off, none⟩) k cap) (t.take k)) := HT.out.first hk;clear hy;by_cases h0 : y = 0
     ·subst h0;go_wp2_with fail;go_round
      case rel => exact ⟨k + 1, hlt, by simp, HNX.out (.inl HY.out.symm)⟩
      case measure => simp [intOf]; omega
     ·have hy0 : ((y : Int) == 0) = false := by simp; omega
      have HY0 : Hid (y ≠ 0) := h0;clear h0;by_cases h2 : y < 2
      ·have h2i : (y : Int) < 2 := by omega
       have HN : Hid (¬ Cok t B k) := fun hh => by
        rcases hh with e | ⟨e, _⟩
        ·rw [← HY.out] at e; exact HY0.out e
        ·rw [← HY.out] at e; omega
       clear h2;go_wp2_with fail
       (try simp only [Exit.inBlock, Exit.then])
       go_ret;exact ⟨by rw [HRN.out k hlt HN.out]; rfl, rfl⟩
      ·have h2i : 2 ≤ (y : Int) := by omega
       have hd2 : decide ((y : Int) < 2) = false := decide_eq_false (by omega);by_cases hyB : B ≤ y
       ·have hyi : (B : Int) ≤ (y : Int) := by omega
        have HN : Hid (¬ Cok t B k) := fun hh => by
         rcases hh with e | ⟨_, e, _⟩
         ·rw [← HY.out] at e; exact HY0.out e
         ·rw [← HY.out] at e; omega
        clear h2;go_wp2_with fail
        (try simp only [Exit.inBlock, Exit.then])
        go_ret;exact ⟨by rw [HRN.out k hlt HN.out]; rfl, rfl⟩
       ·have hyi : (y : Int) < (B : Int) := by omega
        have hd3 : decide ((B : Int) ≤ (y : Int)) = false := decide_eq_false (by omega);by_cases hm : y ∈ t.take k
        ·have HN : Hid (¬ Cok t B k) := fun hh => by
          rcases hh with e | ⟨_, _, e⟩
          ·rw [← HY.out] at e; exact HY0.out e
          ·rw [← HY.out] at e; exact e hm
         have HM : Hid (decide (y ∈ t.take k) = true) := decide_eq_true hm;clear h2 hyB hm;go_wp2_with fail;refine (contains_walk HC1.out y).mono ?_;rintro e w1 ⟨rfl, h9⟩;have h9 := h9.symm;subst h9;rw [HM.out];go_wp2_with fail
         (try simp only [Exit.inBlock, Exit.then])
         go_ret;exact ⟨by rw [HRN.out k hlt HN.out]; rfl, rfl⟩
        ·have HN : Hid (Cok t B k) := .inr (by rw [← HY.out]; exact ⟨by omega, by omega, hm⟩);have HM : Hid (decide (y ∈ t.take k) = false) := decide_eq_false hm;clear h2 hyB hm;go_wp2_with fail;refine (contains_walk HC1.out y).mono ?_;rintro e w1 ⟨rfl, h9⟩;have h9 := h9.symm;subst h9;rw [HM.out];go_wp2_with fail;go_round
         case rel => exact ⟨k + 1, hlt, by simp, HNX.out HN.out⟩
         case measure => simp [intOf]; omega
    ·have hlti : ¬ (k : Int) < (t.length : Int) := by omega
     have hkt : k = t.length := by omega
     have HK : Hid (k = t.length) := hkt;clear hkt;go_wp2_with fail;go_ret;exact ⟨by rw [HRY.out (fun i hi => HSM.out i (by rw [HK.out]; exact hi))]; rfl, rfl⟩
end Go.Proofs.YtcmklbibehnloaaGreat
