/- Rows of whole numbers that are sorted in place: what they hold, two places exchanged. -/
import Derived.Test.YtofkhgokfdpdiabGreatB02
import Derived.Test.YtofkhgokfdpdiabGreatB40
import Derived.Test.YtofkhgokfdpdiabGreatB28
import Derived.Lib.AppendZerosOnto
import Derived.Lib.Walk
import Derived.Shelf.RegionOpenPlain
import Derived.Deep.LoopGhost
import Derived.Sort.WalkB12
import Derived.Sort.EncStr
import Derived.Lib.SliceRun
import Derived.Lib.SlicesCompact
import Derived.Test.YtofkhgokfdpdiabGreatB10
import Derived.Test.YtofkhgokfdpdiabGreatB01
import Derived.Sort.LotA
import Derived.Sort.LotB
import Derived.Sort.LotC
import Derived.Sort.LotD3
import Derived.Sort.Row
import Derived.BigQuiet
import Derived.Deep.QuietTactic
import Derived.Maps.RangeWalk
set_option maxRecDepth 100000
set_option maxHeartbeats 16000000
namespace Go.Proofs.YtofkhgokfdpdiabGreat
section
open Go.RowKit

def fsP : Bo := ⟨1, zer 7, 0, false⟩
def fsS : Dk := ⟨[1, 7, 0, 0, 0, 0, 0, 0, 0] :: List.replicate 15 [], false, -1, 0, 2⟩
theorem fs_form : formO (loadS (List.replicate 16 [])) 7 = (0, some fsP, fsS) := by rfl
theorem fs_iw : Iw fsP fsS (List.replicate 7 []) := by
 refine ⟨zer_ok (by omega) (by omega) (by show 2 + 2 * 7 ≤ 16; omega), rfl, rfl, by show 16 ≤ 64; omega, rfl, rfl, rfl, fun g t hg => ?_, fun p hp => .inl ⟨zer_tn 7 p, bk_rep 7 p⟩⟩
 have : rootOf (bk fsS.bl (1 - fsP.home)) fsS.bl.length = none := rfl
 rw [this] at hg; cases hg
def noS : List (List Cl) := List.replicate 6 []
theorem pgc_no (i : Nat) : pgc noS i = [] := by
 unfold pgc noS
 rw [List.getD_eq_getElem?_getD, List.getElem?_replicate]
 split <;> rfl
theorem in_no (c : Cl) : ¬ InS noS c := by rintro ⟨i, _, h⟩; rw [pgc_no] at h; simp at h
theorem no_gk {k : Int} (hk : knownB k = true) : Gk k zeroM noS := by
 refine ⟨⟨rfl, by intro x hx; simp [zeroM] at hx, ⟨rfl, fun i _ c hc => ?_, fun i _ => ?_⟩, fun i _ => ?_⟩, hk, fun i j c d _ _ _ hc _ => ?_, fun c hc => absurd hc (in_no c), fun c hc => absurd hc (in_no c), fun c hc => absurd hc (in_no c)⟩
 ·rw [pgc_no] at hc; simp at hc
 ·rw [pgc_no]; simp
 ·rw [pgc_no]; rfl
 ·rw [pgc_no] at hc; simp at hc
theorem fs_put : ∃ P S, putO fsP fsS [(0, (encM zeroM).1)] = (0, P, S) ∧ Iw P S (pagesW zeroM noS) ∧ S.left = -1 ∧ cntS P S ≤ 12 ∧ S.bl.length = 16 := by
 have hL : Lok 7 [((0 : Int), (encM zeroM).1)] := ⟨fun p hp => by simp at hp; subst hp; simp, by simp, fun p hp => by simp at hp; subst hp; exact encM_short _⟩
 rcases put_iw fs_iw hL (by simp) (by decide) with ⟨P, S, e, i, e2, e3, e4, e5, e6, e7, e8⟩ | ⟨S', e, _, _, q, _⟩
 ·refine ⟨P, S, e, i, e8 rfl, ?_, e7⟩
  have h1 : cntN [((0 : Int), (encM zeroM).1)] ≤ [((0 : Int), (encM zeroM).1)].length := List.length_filter_le _ _
  have h2 : fsS.wr = 2 := rfl
  have h3 : fsS.rd = 0 := rfl
  have h4 : fsP.gen = 1 := rfl
  rw [h2] at e4
  rw [h3] at e5
  rw [h4] at e2
  simp only [List.length_cons, List.length_nil] at h1
  unfold cntS
  omega
 ·exact absurd rfl q
theorem fs_fmt {k : Int} (hk : knownB k = true) : ∃ P S, fmtO k (loadS (List.replicate 16 [])) = (0, some P, S) ∧ Iw P S (pagesW zeroM noS) ∧ S.left = -1 ∧ cntS P S ≤ 12 ∧ S.bl.length = 16 := by
 obtain ⟨P, S, e, h⟩ := fs_put
 refine ⟨P, S, ?_, h⟩
 unfold fmtO
 rw [if_neg (by rw [hk]; simp), fs_form]
 simp only [e]
 rw [if_neg (by simp)]
def FrGot (k : Int) (w : World) (e : Ending) (w' : World) : Prop :=
 ∃ A P S sp sb, e = .returned (.tuple #[.pointer (some ⟨sb, 0, none⟩), .pointer (some ⟨sp, 0, none⟩)]) ∧ RS A w' (.pointer (some ⟨sp, 0, none⟩)) (.pointer (some ⟨sb, 0, none⟩)) k P S zeroM noS ∧ (∀ x, A x → w.heap.size ≤ x) ∧ w.heap.size ≤ sp ∧ cntS P S ≤ 12 ∧ S.bl.length = 16 ∧ Below w.heap.size w w'
theorem fresh_walk {k : Int} (hk : knownB k = true) (w : World) : Calls Tryz.prog 21 #[.int .i64 k] w (FrGot k w) := by
 have HK : Hid (knownB k = true) := hk
 clear hk
 go_in
 go_wp2_with fail
 refine (new_walk (n := 16) (by omega) (by omega)).mono ?_
 rintro e w1 ⟨dv, D1, rfl, hD1, hB1, hx1⟩
 have HB1 : Hid (Below w.heap.size w w1 ∧ ∀ x, D1 x → w.heap.size ≤ x) := ⟨hB1, hx1⟩
 obtain ⟨sb, hsb⟩ : ∃ sb, dv = .pointer (some ⟨sb, 0, none⟩) := by obtain ⟨sb, _, _, e, _⟩ := hD1; exact ⟨sb, e⟩
 subst hsb
 have HD1 := hidH hD1
 clear hD1 hB1 hx1
 go_wp2_with fail
 refine (sformat_walk HD1.out k (by show (0 : Nat) < _; omega)).mono ?_
 obtain ⟨P, S, hF, hI, hl, hc, hbl⟩ := fs_fmt HK.out
 unfold FtGot
 rw [hF]
 rintro e w2 ⟨v, rfl, _, hso, hC2⟩
 obtain ⟨A2, sp, rfl, hsp, hK2, hx2⟩ := hso _ rfl
 have HA2 : Hid (∀ x, A2 x → w.heap.size ≤ x) := fun x hx => by
  rcases hx2 x hx with q | q
  ·exact HB1.out.2 x q
  ·exact Nat.le_trans HB1.out.1.size q
 have HSP : Hid (w.heap.size ≤ sp) := Nat.le_trans HB1.out.1.size hsp
 have HB2 : Hid (Below w.heap.size w w2) := HB1.out.1.trans (hC2.to_below HB1.out.1.size HB1.out.2)
 have HR : Hid (RS A2 w2 (.pointer (some ⟨sp, 0, none⟩)) (.pointer (some ⟨sb, 0, none⟩)) k P S zeroM noS) := ⟨hK2, hI, no_gk HK.out, hl⟩
 have HN : Hid (cntS P S ≤ 12 ∧ S.bl.length = 16) := ⟨hc, hbl⟩
 clear hso hK2 hx2 hC2 hF hI hl hc hbl hsp
 go_wp2_with fail
 go_ret2
 exact ⟨A2, P, S, sp, sb, rfl, HR.out, HA2.out, HSP.out, HN.out.1, HN.out.2, HB2.out⟩
end
section
open Go.RowKit

theorem info_u64' : (Tryz.prog.info? 33).map (fun i => (i.zero, i.size, i.bytes)) = some (some (.int .u64 0), 1, 8) := by kernel_rfl
open Go.Lib in

theorem grow_walk (n : Nat) (hn : n * 8 ≤ 140737488355328) (w : World) :
  Calls Tryz.prog 104 #[.slice none 0 0, .int .i64 n] w fun e w' => ∃ v, e = .returned v ∧ w'.ownsRow w.heap.size 33 1 v 0 [] ∧ Below w.heap.size w w' := by
 obtain ⟨i0, hi0, hz0, hs1, hb1⟩ := info_parts info_u64'
 have h1 : ¬ ((n : Int) < 0) := by omega
 by_cases hn0 : n = 0
 ·subst hn0
  go_in
  go_wp2
  go_ret
  exact ⟨_, rfl, ⟨rfl, .inl ⟨rfl, rfl⟩⟩, Below.refl _ _⟩
 ·have hnp : (0 : Int) < (n : Int) := by omega
  have hold : (Builtin.firstCells i0.size 0 (.slice none 0 0)).run Tryz.prog w.drew = .ok ([] : List Value).toArray w.drew := run_firstCells_none w.drew i0.size 0 0 0
  have hrz : ∀ ty, (Builtin.append_ #[30, 3] ty #[.slice none 0 0, .int .i64 (n : Int)]).run Tryz.prog w =
    .ok (.slice (some ⟨w.heap.size, 0, none⟩) n (grownCap w n 0 33)) (w.drew.alloc (.cells (([] : List Value).toArray ++ Builtin.zeroCells (Value.int .u64 0).cells n ++ Builtin.zeroCells (Value.int .u64 0).cells (grownCap w n 0 33 - n)) 33)) := fun ty => by
   have h := Lib.run_append_grow_zeros w 30 3 ty 33 i0 (.int .u64 0) .i64 .i64 Tryz.underlying30 Tryz.underlying3 hi0 hz0 none 0 0 [] hold n (by omega) (by omega) (by omega) (by omega)
    (by rw [hb1]; omega)
    (by rw [Nat.zero_add]; exact growslice_fits (by omega) (by rw [hb1]; exact hn))
   rw [Nat.zero_add] at h
   exact h
  obtain ⟨G, hG⟩ : ∃ G, G = grownCap w n 0 33 := ⟨_, rfl⟩
  have hGn : n ≤ G := by rw [hG]; exact grownCap_ge w _ _ _
  have hGm : G ≤ maxLen := by rw [hG]; exact grownCap_le_maxLen w n 0 33 (by unfold maxLen; omega)
  rw [← hG] at hrz
  have HOW : Hid (((w.alloc (.cells (Builtin.zeroCells #[.int .u64 0] n ++ Builtin.zeroCells #[.int .u64 0] (G - n)) 33)).drew).ownsRow w.heap.size 33 1 (.slice (some ⟨w.heap.size, 0, none⟩) 0 G) 0 []) :=
   own_belowC (World.ownsRow_made w _ G (Nat.le_refl _) hGm (by rw [Array.size_append, size_zeroCells, size_zeroCells]; simp; omega)) (below_drew _)
  unfold maxLen at hGm
  have hGi : (G : Int) ≤ 9223372036854775807 := by omega
  clear hold hG hi0 hz0 hs1 hb1 hn hn0 hGm
  go_in
  go_wp2_with (at_builtin; refine Lib.wpList_append_run _ rfl _ _ _ _ rfl _ _ rfl rfl _ _ (hrz _) ?_)
  all_goals go_ret
  all_goals exact ⟨_, rfl, HOW.out, (below_alloc w _).drew⟩
def Pk (w : World) (v : Value) (ls : List (List Nat)) : Prop :=
 ∃ ao cap, v = .slice ao ls.length cap ∧ ls.length ≤ cap ∧ cap ≤ maxLen ∧ (ao = none → cap = 0) ∧
  ∀ i, i < ls.length → ∃ b off u, ao = some ⟨b, off, none⟩ ∧ w.cell? ⟨b, off + i, none⟩ = some u ∧ Kv w u (ls.getD i [])
theorem pk_two {w : World} {a b : Value} {la lb : List Nat} (t : TypeId) (ha : Kv w a la) (hb : Kv w b lb) :
  Pk (w.alloc (.cells #[a, b] t)) (.slice (some ⟨w.heap.size, 0, none⟩) 2 2) [la, lb] := by
 refine ⟨_, 2, rfl, Nat.le_refl _, by simp [maxLen], by simp, fun i hi => ?_⟩
 simp at hi
 have : i = 0 ∨ i = 1 := by omega
 rcases this with rfl | rfl
 ·exact ⟨_, _, a, rfl, by simp, ha.below (below_alloc _ _)⟩
 ·exact ⟨_, _, b, rfl, by simp, hb.below (below_alloc _ _)⟩
theorem flatU_le (ls : List (List Nat)) (k : Nat) : (ls.take k).flatten.length ≤ ls.flatten.length := by
 have : ls.flatten = (ls.take k).flatten ++ (ls.drop k).flatten := by rw [← List.flatten_append, List.take_append_drop]
 rw [this]; simp
theorem flatU_succ (ls : List (List Nat)) (k : Nat) (hk : k < ls.length) : (ls.take (k + 1)).flatten = (ls.take k).flatten ++ ls.getD k [] := by
 have e : ls.getD k [] = ls[k] := by simp [List.getD, List.getElem?_eq_getElem hk]
 rw [e, List.take_succ_eq_append_getElem hk, List.flatten_append, List.flatten_singleton]
theorem bd8 {n m : Nat} (h : n ≤ m) (hs : m * 8 ≤ 140737488355328) : n * 8 ≤ 140737488355328 := Nat.le_trans (Nat.mul_le_mul_right 8 h) hs
theorem bm8 {n m : Nat} (h : n ≤ m) (hs : m * 8 ≤ 140737488355328) : n ≤ maxLen := by unfold maxLen; omega
def JkRel (ls : List (List Nat)) (H : Nat) (w : World) (v iv : Value) (wr : World) : Prop :=
 ∃ k : Nat, k ≤ ls.length ∧ iv = .int .i64 k ∧ wr.ownsRow H 33 1 v (ls.take k).flatten.length ((ib (ls.take k).flatten).map (Value.int .u64)) ∧ Below H w wr
theorem concat_some (ls : List (List Nat)) (b off cap : Nat) (w : World) (hl : ls.length ≤ cap) (hcap : cap ≤ maxLen) (hsz : ls.flatten.length * 8 ≤ 140737488355328)
  (hc : ∀ i, i < ls.length → ∃ u, w.cell? ⟨b, off + i, none⟩ = some u ∧ Kv w u (ls.getD i [])) :
  Calls Tryz.prog 57 #[.slice (some ⟨b, off, none⟩) ls.length cap] w fun e w' => ∃ v, e = .returned v ∧ w'.ownsRow w.heap.size 33 1 v ls.flatten.length ((ib ls.flatten).map (Value.int .u64)) ∧ Below w.heap.size w w' := by
 unfold maxLen at hcap
 have hli : (ls.length : Int) ≤ 9223372036854775807 := by omega
 have HSZ := hidH hsz
 have HC : Hid (∀ i, i < ls.length → ∃ u, w.cell? ⟨b, off + i, none⟩ = some u ∧ Kv w u (ls.getD i [])) := hc
 clear hcap hsz hc hl
 go_in
 go_wp2
 go_loopw [3, 11] (fun sv iv wr => ∃ k s : Nat, k ≤ ls.length ∧ iv = .int .i64 k ∧ sv = .int .i64 s ∧ s = (ls.take k).flatten.length ∧ wr = w) (fun _ iv _ => ls.length - (intOf iv).toNat)
 case atStart => exact ⟨0, 0, Nat.zero_le _, rfl, rfl, by simp, rfl⟩
 case round =>
  obtain ⟨k, s, hk, rfl, rfl, hs, hwr⟩ := hrel
  replace hwr := hwr.symm
  subst hwr
  have HS : Hid (s = (ls.take k).flatten.length) := hs
  have hsb : (s : Int) ≤ 17592186044416 := by have h1 := flatU_le ls k; have h2 := HSZ.out; omega
  clear hs
  by_cases hlt : k < ls.length
  ·obtain ⟨u, hu, hbu⟩ := HC.out k hlt
   obtain ⟨p, hp⟩ : ∃ p, ls.getD k [] = p := ⟨_, rfl⟩
   rw [hp] at hbu
   obtain ⟨ua, uc, hcu, _, _⟩ := kv_form hbu
   obtain ⟨m, hm⟩ : ∃ m, m = p.length := ⟨_, rfl⟩
   rw [← hm] at hcu
   have hnx : s + m = (ls.take (k + 1)).flatten.length := by rw [flatU_succ ls k hlt, List.length_append, hp, ← hm, HS.out]
   have HNX : Hid (s + m = (ls.take (k + 1)).flatten.length) := hnx
   have hsm : (s : Int) + (m : Int) ≤ 17592186044416 := by have h1 := flatU_le ls (k + 1); have h2 := HSZ.out; omega
   have hneg : ¬ (s : Int) + (m : Int) < 0 := by omega
   subst hcu
   clear hp hbu hnx hm
   have hlti : (k : Int) < (ls.length : Int) := by omega
   go_wp2_with fail
   go_roundw
   case rel => exact ⟨k + 1, s + m, hlt, by go_num, by go_num, HNX.out, by first | rfl | trivial⟩
   case measure => simp [intOf]; omega
  ·have hlti : ¬ (k : Int) < (ls.length : Int) := by omega
   obtain rfl : k = ls.length := by omega
   have HST : Hid (s = ls.flatten.length) := by have := HS.out; rwa [List.take_length] at this
   have HS8 : Hid (s * 8 ≤ 140737488355328) := by show _ ≤ _; rw [HST.out]; exact HSZ.out
   clear HS hsb
   go_wp2_with fail
   refine (grow_walk s HS8.out _).mono ?_
   rintro e w2 ⟨v2, rfl, ho2, hB2⟩
   have HST2 : Hid (JkRel ls w.heap.size w v2 (.int .i64 0) w2) := ⟨0, Nat.zero_le _, rfl, by simpa [ib] using ho2, hB2⟩
   clear ho2 hB2
   go_wp2_with fail
   go_loopw [6, 27] (fun v iv wr => JkRel ls w.heap.size w v iv wr) (fun _ iv _ => ls.length - (intOf iv).toNat)
   case atStart => exact HST2.out
   case round =>
    clear HST2
    obtain ⟨k, hk, rfl, hown, hbel⟩ := hrel
    have hH : w.heap.size ≤ wr.heap.size := hbel.size
    by_cases hlt : k < ls.length
    ·obtain ⟨u, hu, hbu⟩ := HC.out k hlt
     obtain ⟨p, hp⟩ : ∃ p, ls.getD k [] = p := ⟨_, rfl⟩
     rw [hp] at hbu
     have HP : Hid (ls.getD k [] = p) := hp
     have HB : Hid (Sv .u64 wr u (ib p)) := hbu.below hbel
     have HBD : Hid ((ls.take k).flatten.length + (ib p).length ≤ ls.flatten.length) := by
      have h1 := flatU_le ls (k + 1)
      rw [flatU_succ ls k hlt, List.length_append, hp] at h1
      show _ ≤ _
      rw [ib_len]; exact h1
     obtain ⟨ua, uc, hcu, _, _⟩ := kv_form hbu
     have hcell : wr.cell? ⟨b, off + k, none⟩ = some u := by rw [hbel.cell (p := ⟨b, off + k, none⟩) (cell_lt hu)]; exact hu
     obtain ⟨m, hm⟩ : ∃ m, m = p.length := ⟨_, rfl⟩
     rw [← hm] at hcu
     subst hcu
     have hlti : (k : Int) < (ls.length : Int) := by omega
     clear hp hu hbu hm
     go_upto_region 14 with (at_builtin; refine wpList_append_sv (by rfl) (.tmp 31) (.tmp 32) 30 (by rfl) w.heap.size 33 .u64 8 Tryz.underlying30 info_u64' _ _ _ (by rfl) hown _ _ (by rfl) HB.out (bm8 HBD.out HSZ.out) (bd8 HBD.out HSZ.out) hH ?_; intro v' w1 hown' hgrow)
     have R : Hid (JkRel ls w.heap.size w v' (.int .i64 ((k : Int) + 1)) w1) := ⟨k + 1, hlt, rfl, by
      rw [flatU_succ ls k hlt, HP.out, List.length_append, ib_append, List.map_append, ← ib_len p]; exact hown', hbel.trans (grown_belowC hown hgrow hH)⟩
     clear hown' hgrow
     go_wp2_with fail
     go_roundw
     case rel => exact R.out
     case measure => simp [intOf]; omega
    ·have hlti : ¬ (k : Int) < (ls.length : Int) := by omega
     obtain rfl : k = ls.length := by omega
     have HO : Hid (wr.ownsRow w.heap.size 33 1 u6 ls.flatten.length ((ib ls.flatten).map (Value.int .u64))) := by
      have := hown
      rwa [List.take_length] at this
     clear hown
     go_wp2_with fail
     go_ret
     exact ⟨_, rfl, by first | exact HO.out | (have q := HO.out; rw [List.length_flatten] at q; exact q), hbel⟩
theorem concat_walk {w : World} {v : Value} {ls : List (List Nat)} (h : Pk w v ls) (h0 : 0 < ls.length) (hsz : ls.flatten.length * 8 ≤ 140737488355328) :
  Calls Tryz.prog 57 #[v] w fun e w' => ∃ v, e = .returned v ∧ w'.ownsRow w.heap.size 33 1 v ls.flatten.length ((ib ls.flatten).map (Value.int .u64)) ∧ Below w.heap.size w w' := by
 obtain ⟨ao, cap, rfl, h1, h2, h3, h4⟩ := h
 obtain ⟨b, off, u, rfl, _, _⟩ := h4 0 h0
 refine concat_some ls b off cap w h1 h2 hsz fun i hi => ?_
 obtain ⟨b', off', u', e1, e2, e3⟩ := h4 i hi
 cases e1
 exact ⟨u', e2, e3⟩
end
section
open Go.RowKit Go.Lib Go.Sort

def encN (x : Nat) : Value := .int .u64 (x : Int)
theorem store_worldN {w wr : World} {n blk off : Nat} {dk : Array Nat} {i : Nat} (hi : i < dk.size) (hwr : wr = putRow encN (Sort.ahead w n) blk off dk) (x : Nat) :
  (wr.setCell ⟨blk, off + i, none⟩ (.int .u64 (x : Int))).drew = putRow encN (Sort.ahead w (n + 1)) blk off (dk.setIfInBounds i x) := by
 subst hwr
 rw [show Value.int .u64 (x : Int) = encN x from rfl, putRow_set encN _ blk off dk i x hi, ← ahead_drew]
 rfl
theorem ucomp_arr (blk off cap : Nat) (d : Array Nat) (w : World) (hH : Holds encN w blk off d) (hsz : d.size ≤ 9223372036854775807) (hcap : d.size ≤ cap) (hcm : cap ≤ 9223372036854775807) :
  Calls Tryz.prog 59 #[.slice (some ⟨blk, off, none⟩) d.size cap] w fun e w' => e = .returned (.slice (some ⟨blk, off, none⟩) (compactUpTo d d.size).length cap) ∧ ∃ q, w' = putRow encN (Sort.ahead w q) blk off (compactUpTo d d.size ++ List.replicate (d.size - (compactUpTo d d.size).length) 0).toArray := by
 have mixed : Tryz.prog.follows Departure.mixedOrders = true := by kernel_rfl
 have t22 := Tryz.underlying30
 have v3 := Tryz.zeroValue33
 have same : ∀ q, (∀ j, j < d.size → keeps d j = true) → (compactUpTo d d.size).length = d.size ∧ w.drewN q = putRow encN (Sort.ahead w q) blk off (compactUpTo d d.size ++ List.replicate (d.size - (compactUpTo d d.size).length) 0).toArray := by
  intro q hall
  have e : compactUpTo d d.size = d.toList := by rw [compactUpTo_all d _ hall, range_map_get]
  rw [e]
  refine ⟨by simp, ?_⟩
  simp only [Array.length_toList, Nat.sub_self, List.replicate_zero, List.append_nil, Array.toArray_toList]
  exact (putRow_self encN (Sort.ahead w q) blk off d (holds_ahead encN w q blk off d hH)).symm
 have HS : Hid (∀ q, (∀ j, j < d.size → keeps d j = true) → (compactUpTo d d.size).length = d.size ∧ w.drewN q = putRow encN (Sort.ahead w q) blk off (compactUpTo d d.size ++ List.replicate (d.size - (compactUpTo d d.size).length) 0).toArray) := same
 clear same
 by_cases h2 : d.size < 2
 ·have HH := hidH hH
  clear hH
  go_in
  go_wp2
  go_ret
  obtain ⟨e1, e2⟩ := HS.out 0 (fun j hj => keeps_lt_one d j (by omega))
  exact ⟨by rw [e1]; rfl, 0, e2⟩
 ·go_in
  go_wp2
  go_loopg [3] d.size (fun g s3 wr => ∃ k q : Nat, 1 ≤ k ∧ k ≤ d.size ∧ d.size - k ≤ g ∧ s3 = .int .i64 k ∧ wr = w.drewN q ∧ ∀ j, j < k → keeps d j = true)
  case atStart => exact ⟨1, 0, Nat.le_refl _, by omega, by omega, rfl, rfl, keeps_lt_one d⟩
  case round =>
   obtain ⟨k, q, hk1, hk, hg, rfl, rfl, hall⟩ := hrel
   by_cases hlt : k < d.size
   ·obtain ⟨c1, f1⟩ := hH k hlt
    obtain ⟨c0, f0⟩ := hH (k - 1) (by omega)
    have A : Hid (∀ j, j < k → keeps d j = true) := hall
    have HH := hidH hH
    clear hall hH
    unfold encN at c0 c1
    generalize hx : d[k]! = x at c1
    generalize hy : d[k - 1]! = y at c0
    have B : Hid (d[k]! = x ∧ d[k - 1]! = y) := ⟨hx, hy⟩
    clear hx hy
    by_cases hdup : x = y
    ·subst hdup
     go_wp2_with fail
     go_region_o
     go_wp2
     clear c0 c1 f0 f1
     go_loopg [3, 5] d.size (fun g s3 s5 wr => ∃ (kk k2 q2 : Nat) (dk : Array Nat), s3 = .int .i64 kk ∧ s5 = .int .i64 k2 ∧ 1 ≤ k2 ∧ k + k2 ≤ d.size ∧ d.size - (k + k2) ≤ g ∧ wr = putRow encN (Sort.ahead w q2) blk off dk ∧ CompInv d (k + k2) kk dk)
     case atStart => exact ⟨k, 1, q + 1, d, rfl, rfl, Nat.le_refl _, by omega, by omega, (putRow_self encN (Sort.ahead w (q + 1)) blk off d (holds_ahead encN w (q + 1) blk off d HH.out)).symm, CompInv.start A.out (keeps_neg (by omega) (by rw [B.out.1, B.out.2]))⟩
     case round =>
      obtain ⟨kk, k2, q2, dk, rfl, rfl, h1, hle, hg2, hwr, hI⟩ := hrel
      have hkk := hI.lt
      have hds := hI.size
      have hHk : Holds encN wr blk off dk := by rw [hwr]; exact holds_putRow encN _ blk off d dk (holds_ahead encN w q2 blk off d HH.out) hds
      have W2 : Hid (wr = putRow encN (Sort.ahead w q2) blk off dk) := hwr
      have I2 := hidH hI
      clear hwr
      by_cases hlt2 : k + k2 < d.size
      ·obtain ⟨cm, _⟩ := hHk (k + k2) (by omega)
       obtain ⟨cp, _⟩ := hHk (k + k2 - 1) (by omega)
       obtain ⟨ck, fk⟩ := hHk kk (by omega)
       rw [hI.high (k + k2) (by omega), show off + (k + k2) = off + k + k2 by omega] at cm
       rw [hI.high (k + k2 - 1) (by omega), show off + (k + k2 - 1) = off + k + (k2 - 1) by omega] at cp
       clear hHk hI
       unfold encN at cm cp ck
       generalize hu : d[k + k2]! = u at cm
       generalize hv : d[k + k2 - 1]! = v at cp
       generalize dk[kk]! = old at ck
       have C : Hid (d[k + k2]! = u ∧ d[k + k2 - 1]! = v) := ⟨hu, hv⟩
       clear hu hv
       by_cases huv : u = v
       ·subst huv
        go_wp2_with fail
        go_region_o
        go_wp2
        go_roundg (d.size - (k + (k2 + 1)))
        case measure => omega
        case rel => exact ⟨kk, k2 + 1, q2 + 1, dk, rfl, by go_num, by omega, by omega, Nat.le_refl _, by rw [W2.out]; rfl, I2.out.skip (keeps_neg (by omega) (by rw [C.out.1, C.out.2]))⟩
       ·have huv' : ¬ (u : Int) = (v : Int) := by omega
        go_wp2_with fail
        go_region_o
        go_wp2
        go_roundg (d.size - (k + (k2 + 1)))
        case measure => omega
        case rel => exact ⟨kk + 1, k2 + 1, q2 + 1, dk.setIfInBounds kk u, by go_num, by go_num, by omega, by omega, Nat.le_refl _, store_worldN (by omega) W2.out u, by have := I2.out.keep hlt2 (keeps_pos (by rw [C.out.1, C.out.2]; exact huv)); rwa [C.out.1] at this⟩
      ·have hend : k + k2 = d.size := by omega
       have hcl : ∀ ty, (Builtin.clear_ #[30] ty #[.slice (some ⟨blk, off + kk, none⟩) (d.size - kk) (cap - kk)]).run Tryz.prog wr = .ok (.tuple #[]) (wr.setCells blk (off + kk) (List.replicate (d.size - kk) (encN 0))) :=
        fun ty => Lib.run_clear_slice wr _ _ ty _ t22 v3 rfl rfl blk (off + kk) _ _ (by omega) (fun j hj => by rw [show off + kk + j = off + (kk + j) by omega, (hHk (kk + j) (by omega)).1]; rfl) (fun j hj => by rw [show off + kk + j = off + (kk + j) by omega]; exact (hHk (kk + j) (by omega)).2)
       clear hHk hI
       go_wp2
       go_ret
       have hI := I2.out
       rw [hend] at hI
       refine ⟨by rw [hI.len]; rfl, q2, ?_⟩
       rw [hI.len, ← hI.done 0, ← putRow_setCells encN _ blk off _ dk kk (by simp; omega), ← W2.out, List.map_replicate]
    ·have hdup' : ¬ (x : Int) = (y : Int) := by omega
     go_wp2_with fail
     go_region_o
     go_wp2
     go_roundg (d.size - (k + 1))
     case measure => omega
     case rel =>
      refine ⟨k + 1, q + 1, by omega, by omega, Nat.le_refl _, by go_num, rfl, fun j hj => ?_⟩
      by_cases e : j = k
      ·subst e
       exact keeps_pos (by rw [B.out.1, B.out.2]; exact hdup)
      ·exact A.out j (by omega)
   ·have : k = d.size := by omega
    subst this
    have HH := hidH hH
    clear hH
    go_wp2
    go_ret
    obtain ⟨e1, e2⟩ := HS.out q hall
    exact ⟨by rw [e1]; rfl, q, e2⟩
theorem ucomp_empty (a : Option Addr) (cap : Nat) (w : World) :
  Calls Tryz.prog 59 #[.slice a 0 cap] w fun e w' => e = .returned (.slice a 0 cap) ∧ w' = w := by
 go_in
 go_wp2
 go_ret
 exact ⟨rfl, rfl⟩
end
section
open Go.RowKit

def ltN (x y : Nat) : Bool := decide (x < y)
theorem swo_ltN : Sort.SWO ltN where
 irrefl x := by simp [ltN]
 trans x y z h k := by simp [ltN] at *; omega
 ntrans x y z h k := by simp [ltN] at *; omega
def Un (w : World) (g o cap : Nat) (d : Array Nat) : Prop :=
 ∃ cur, w.heap[g]? = some (.cells cur 33 (0, 0)) ∧ cur.size = cap ∧ o + d.size ≤ cap ∧ ∀ j, j < d.size → cur[o + j]? = some (.int .u64 (d[j]! : Nat))
theorem Un.cell {w : World} {g o cap : Nat} {d : Array Nat} (h : Un w g o cap d) {j : Nat} (hj : j < d.size) : w.cell? ⟨g, o + j, none⟩ = some (.int .u64 (d[j]! : Nat)) := by
 obtain ⟨cur, h1, _, _, h4⟩ := h
 rw [cell_of_row w g (o + j) cur _ (0, 0) h1]
 exact h4 j hj
theorem Un.soft {w : World} {g o cap : Nat} {d : Array Nat} (h : Un w g o cap d) (j : Nat) : w.frozen? ⟨g, o + j, none⟩ = false := by
 obtain ⟨cur, h1, _⟩ := h
 simp [World.frozen?, h1]
theorem Un.lt {w : World} {g o cap : Nat} {d : Array Nat} (h : Un w g o cap d) : g < w.heap.size := by
 obtain ⟨cur, h1, _⟩ := h
 exact (Array.getElem?_eq_some_iff.1 h1).1
theorem Un.kept {w w' : World} {g o cap : Nat} {d : Array Nat} (h : Un w g o cap d) (hb : w'.heap[g]? = w.heap[g]?) : Un w' g o cap d := by
 obtain ⟨cur, h1, h2⟩ := h
 exact ⟨cur, by rw [hb]; exact h1, h2⟩
theorem Un.set {w : World} {g o cap : Nat} {d : Array Nat} (h : Un w g o cap d) {i : Nat} (hi : i < d.size) (x : Nat) : Un (w.setCell ⟨g, o + i, none⟩ (.int .u64 x)) g o cap (d.setIfInBounds i x) := by
 obtain ⟨cur, h1, h2, h3, h4⟩ := h
 refine ⟨cur.setIfInBounds (o + i) (.int .u64 x), ?_, by simpa using h2, by simpa using h3, fun j hj => ?_⟩
 ·rw [Sort.setCell_eq]
  simp [Sort.mapBlock, Array.getElem?_modify, h1, Sort.onCells]
 ·have hj' : j < d.size := by simpa using hj
  rw [Array.getElem?_setIfInBounds]
  by_cases e : i = j
  ·subst e
   rw [if_pos rfl, if_pos (by omega), Sort.getElem!_set_same d i x hi]
  ·rw [if_neg (by omega), h4 j hj', getElem!_pos (d.setIfInBounds i x) j hj, Array.getElem_setIfInBounds hj', if_neg e, getElem!_pos d j hj']
theorem Un.swap {w : World} {g o cap : Nat} {d : Array Nat} (h : Un w g o cap d) {i j : Nat} (hi : i < d.size) (hj : j < d.size) :
  Un ((w.setCell ⟨g, o + i, none⟩ (.int .u64 (d[j]! : Nat))).setCell ⟨g, o + j, none⟩ (.int .u64 (d[i]! : Nat))) g o cap (Sort.swp d i j) := (h.set hi d[j]!).set (by simpa using hj) d[i]!
theorem grown_refl (w : World) (r : Option Nat) : w.grownBy w r := ⟨rfl, rfl, rfl, Nat.le_refl _, fun _ _ _ => rfl⟩
theorem grown_swap {w0 w : World} {g : Nat} (h : w0.grownBy w (some g)) (i j : Nat) (u v : Value) : w0.grownBy ((w.setCell ⟨g, i, none⟩ u).setCell ⟨g, j, none⟩ v) (some g) :=
 grown_trans (grown_trans h (grown_set _ _ _ _)) (grown_set _ _ _ _)
structure Us (w : World) (g o cap n : Nat) (dk : Array Nat) (wr : World) : Prop where
 row : Un wr g o cap dk
 size : dk.size = n
 grown : w.grownBy wr (some g)
theorem Us.start {w : World} {g o cap : Nat} {d : Array Nat} (h : Un w g o cap d) : Us w g o cap d.size d w := ⟨h, rfl, grown_refl _ _⟩
theorem Us.swap {w wr : World} {g o cap n : Nat} {d : Array Nat} (h : Us w g o cap n d wr) {i j : Nat} (hi : i < n) (hj : j < n) {x y : Nat} (hx : x = d[j]!) (hy : y = d[i]!) :
  Us w g o cap n (Sort.swp d i j) ((wr.setCell ⟨g, o + i, none⟩ (.int .u64 (x : Nat))).setCell ⟨g, o + j, none⟩ (.int .u64 (y : Nat))) := by
 subst hx; subst hy
 obtain ⟨h1, h2, h3⟩ := h
 exact ⟨h1.swap (by omega) (by omega), by rw [Sort.size_swp]; exact h2, grown_swap h3 _ _ _ _⟩
theorem Us.drew {w wr : World} {g o cap n : Nat} {d : Array Nat} (h : Us w g o cap n d wr) (k : Nat) : Us w g o cap n d (wr.drewN k) := ⟨h.row, h.size, ⟨h.grown.os, h.grown.tape, h.grown.output, h.grown.size, h.grown.block⟩⟩
theorem Us.after {w w1 w2 : World} {g o cap n : Nat} {d e : Array Nat} (h : Us w g o cap n d w1) (k : Us w1 g o cap n e w2) : Us w g o cap n e w2 := ⟨k.row, k.size, grown_trans h.grown k.grown⟩
theorem Us.cell {w wr : World} {g o cap n : Nat} {d : Array Nat} (h : Us w g o cap n d wr) : ∀ t, t < n → wr.cell? ⟨g, o + t, none⟩ = some (.int .u64 (d[t]! : Nat)) := fun t ht => h.row.cell (by rw [h.size]; exact ht)
theorem Us.soft {w wr : World} {g o cap n : Nat} {d : Array Nat} (h : Us w g o cap n d wr) : ∀ t, wr.frozen? ⟨g, o + t, none⟩ = false := fun t => h.row.soft t
theorem Us.drew1 {w wr : World} {g o cap n : Nat} {d : Array Nat} (h : Us w g o cap n d wr) : Us w g o cap n d wr.drew := ⟨h.row, h.size, ⟨h.grown.os, h.grown.tape, h.grown.output, h.grown.size, h.grown.block⟩⟩
theorem Us.fam {w wr : World} {g o cap n : Nat} {d : Array Nat} (h : Us w g o cap n d wr) : ∃ G : Nat → Nat, (∀ t, G t = d[t]!) ∧ (∀ t, t < n → wr.cell? ⟨g, o + t, none⟩ = some (.int .u64 (G t : Nat))) ∧ (∀ t, t < n → wr.frozen? ⟨g, o + t, none⟩ = false) :=
 ⟨fun t => d[t]!, fun _ => rfl, h.cell, fun t _ => h.soft t⟩
theorem Us.swp {w wr : World} {g o cap n : Nat} {d : Array Nat} (h : Us w g o cap n d wr) {G : Nat → Nat} (hG : ∀ t, G t = d[t]!) {i j : Nat} (hi : i < n) (hj : j < n) (q : Nat) :
  Us w g o cap n (Sort.swp d i j) (((wr.drewN q).setCell ⟨g, o + i, none⟩ (.int .u64 (G j : Nat))).setCell ⟨g, o + j, none⟩ (.int .u64 (G i : Nat))) := (h.drew q).swap hi hj (hG j) (hG i)
theorem Us.swp0 {w wr : World} {g o cap n : Nat} {d : Array Nat} (h : Us w g o cap n d wr) {G : Nat → Nat} (hG : ∀ t, G t = d[t]!) {i j : Nat} (hi : i < n) (hj : j < n) :
  Us w g o cap n (Sort.swp d i j) (((wr.setCell ⟨g, o + i, none⟩ (.int .u64 (G j : Nat))).setCell ⟨g, o + j, none⟩ (.int .u64 (G i : Nat))).drew) := (h.swap hi hj (hG j) (hG i)).drew1
end
end Go.Proofs.YtofkhgokfdpdiabGreat
