/- Keys put together: a rising list of both; contract of mark's Union. -/
import Derived.Test.YtofkhgokfdpdiabGreatB02
import Derived.Test.YtofkhgokfdpdiabGreatB44
import Derived.Sort.LotD5
import Derived.Test.YtofkhgokfdpdiabGreatB41
set_option maxRecDepth 100000
set_option maxHeartbeats 16000000
namespace Go.Proofs.YtofkhgokfdpdiabGreat
section
open Go.RowKit Go.Shelf

theorem Us.fresh {w wr : World} {g o cap n : Nat} {d : Array Nat} (h : Us w g o cap n d wr) {r : Nat} (hr : w.heap.size ≤ r) (hg : g ≠ r) (i : Nat) (u : Value) : Us w g o cap n d (wr.setCell ⟨r, i, none⟩ u) :=
 ⟨h.row.kept (Below.heap_setCell wr _ _ g hg), h.size, ⟨h.grown.os, h.grown.tape, h.grown.output, by simpa [go_sem] using h.grown.size, fun k hk hne => by rw [Below.heap_setCell wr ⟨r, i, none⟩ u k (by show k ≠ r; omega)]; exact h.grown.block k hk hne⟩⟩
theorem ubrk_walk {w : World} {g o cap n a b : Nat} {d : Array Nat} (h : Un w g o cap d) (hn : d.size = n) (hab : a + 12 < b) (hb : b ≤ n) (hsz : n ≤ 2305843009213693951) :
  Calls Tryz.prog 151 #[.slice (some ⟨g, o, none⟩) n cap, .int .i64 a, .int .i64 b] w fun e w' => e = .returned (.tuple #[]) ∧ ∃ d', Us w g o cap n d' w' ∧ Sort.PermIn a b d d' := by
 obtain ⟨L, hL⟩ : ∃ L, L = b - a := ⟨_, rfl⟩
 obtain ⟨q, hq⟩ : ∃ q, q = L / 4 := ⟨_, rfl⟩
 obtain ⟨J, hJ⟩ : ∃ J, J = a + q * 2 := ⟨_, rfl⟩
 obtain ⟨M, hM⟩ : ∃ M : Nat, M = 1 <<< Sort.bitsLen L := ⟨_, rfl⟩
 have hM1 : 1 ≤ M := by rw [hM, Nat.one_shiftLeft]; exact Nat.two_pow_pos _
 have hM2 : M ≤ 2 * L := by rw [hM, Nat.one_shiftLeft]; exact Sort.two_pow_bitsLen_le (by omega)
 have HPW : Hid (∀ w, Calls Tryz.prog 191 #[.int .i64 L] w fun e w' => e = .returned (.int .u64 (M : Nat)) ∧ w' = w) := by
  intro w
  rw [hM]
  exact upow_walk L (by omega) w
 have rL : (b : Int) - (a : Int) = (L : Int) := by omega
 have rq : (L : Int).tdiv 4 = (q : Int) := by rw [Int.tdiv_eq_ediv_of_nonneg (by omega)]; omega
 have rJ : (a : Int) + (q : Int) * 2 = (J : Int) := by omega
 have hJ1 : a + 4 ≤ J := by omega
 have hJ2 : J + 2 < b := by omega
 have hqn : q < n := by omega
 have hL8 : 8 ≤ L := by omega
 have hLb : a + L = b := by omega
 have hwL : IntKind.u64.wrap (L : Int) = (L : Int) := by rw [IntKind.wrap_u64]; omega
 have HU0 : Hid (Us w g o cap n d (w.alloc (Obj.cells #[.int .u64 (L : Nat)] 250))) := ⟨h.alloc _, hn, (World.grownBy_alloc w _ _)⟩
 have HL64 : Hid (L < 18446744073709551616) := by show _ < _; omega
 obtain ⟨r, hr⟩ : ∃ r, r = w.heap.size := ⟨_, rfl⟩
 have HRN : Hid (w.heap.size ≤ r) := by show _ ≤ _; omega
 have HGN : Hid (g ≠ r) := by have := h.lt; show g ≠ r; omega
 clear h hn hL hq hJ hM
 go_in
 go_wp2_with (go_at_call 191; refine (HPW.out _).mono ?_; rintro e w9 ⟨rfl, h9⟩; have h9 := h9.symm; subst h9)
 rw [← hr]
 have K1 : (w.alloc (Obj.cells #[.int .u64 (L : Nat)] 250)).cell? ⟨r, 0, none⟩ = some (.int .u64 (L : Nat)) := by rw [hr]; simp [go_sem]
 have K2 : (w.alloc (Obj.cells #[.int .u64 (L : Nat)] 250)).frozen? ⟨r, 0, none⟩ = false := by rw [hr]; simp [go_sem]
 have HK : Hid (_ ∧ _) := ⟨K1, K2⟩
 clear K1 K2 hr
 go_loopw [9] (fun iv wr => ∃ (i X : Nat) (dk : Array Nat), iv = .int .i64 i ∧ J ≤ i + 1 ∧ i ≤ J + 2 ∧ X < 18446744073709551616 ∧ wr.cell? ⟨r, 0, none⟩ = some (.int .u64 (X : Nat)) ∧ wr.frozen? ⟨r, 0, none⟩ = false ∧ Us w g o cap n dk wr ∧ Sort.PermIn a b d dk) (fun iv _ => J + 2 - (intOf iv).toNat)
 case atStart => exact ⟨J - 1, L, d, by congr 1; omega, by omega, by omega, HL64.out, HK.out.1, HK.out.2, HU0.out, Sort.permIn_refl _ _ _⟩
 case round =>
  obtain ⟨i, X, dk, rfl, h1, h2, hX, k1, k2, hU, hP⟩ := hrel
  have HU := hidH hU
  have HP := hidH hP
  have HX := hidH hX
  clear hU hP hX
  by_cases hlt : i ≤ J + 1
  ·obtain ⟨Y, hY⟩ : ∃ Y, Y = Sort.xorNextN X := ⟨_, rfl⟩
   have hYL : Y < 18446744073709551616 := by rw [hY]; exact Sort.xorNextN_lt X HX.out
   have HY : Hid (Y = Sort.xorNextN X) := hY
   obtain ⟨O, hO⟩ : ∃ O : Nat, O = Y &&& (M - 1) := ⟨_, rfl⟩
   have hOM : O ≤ M - 1 := by rw [hO]; exact Nat.and_le_right
   have eAnd : bits .and .u64 (Y : Int) ((M : Int) - 1) = (O : Int) := by
    rw [show ((M : Int) - 1) = ((M - 1 : Nat) : Int) by omega, bits_and_u64_nat _ _ hYL (by omega), hO]
   have hwO : IntKind.i64.wrap (O : Int) = (O : Int) := wrapU (by omega) (by omega)
   have hwM : IntKind.u64.wrap ((M : Int) - 1) = (M : Int) - 1 := by rw [IntKind.wrap_u64]; omega
   have HYL := hidH hYL
   clear hY hO hYL
   by_cases hOL : L ≤ O
   ·obtain ⟨E, hE⟩ : ∃ E, E = O - L := ⟨_, rfl⟩
    have rE : (O : Int) - (L : Int) = (E : Int) := by omega
    have hEL : E < L := by omega
    clear hE
    obtain ⟨P, hP⟩ : ∃ P, P = a + E := ⟨_, rfl⟩
    have rP : (a : Int) + (E : Int) = (P : Int) := by omega
    have hPa : a ≤ P := by omega
    have hPb : P < b := by omega
    clear hP
    go_wp2_with (go_at_call 192; refine (unext_walk _ X HX.out _ k1 k2).mono ?_; rw [← HY.out]; rintro e w9 ⟨rfl, h9⟩; subst h9)
    generalize hw2 : (wr.setCell ⟨r, 0, none⟩ (.int .u64 (Y : Nat))).drewN 3 = w2
    have HU2 : Hid (Us w g o cap n dk w2) := by show Us _ _ _ _ _ _ _; rw [← hw2]; exact (HU.out.fresh HRN.out HGN.out 0 _).drew 3
    have k1' : w2.cell? ⟨r, 0, none⟩ = some (.int .u64 (Y : Nat)) := by rw [← hw2]; simp [go_sem, k1]
    have k2' : w2.frozen? ⟨r, 0, none⟩ = false := by rw [← hw2]; simpa [go_sem] using k2
    clear hw2 k1 k2
    have k1 := k1'
    have k2 := k2'
    clear k1' k2'
    obtain ⟨G, hG, hcw, hfw⟩ := HU2.out.fam
    have HG : Hid (∀ x, G x = dk[x]!) := hG
    clear hG
    by_cases hiP : i = P
    ·subst hiP
     go_region
     all_goals go_wp2_with fail
     all_goals go_roundw
     case rel => exact ⟨i + 1, Y, Sort.swp dk i i, by simp, by omega, by omega, HYL.out, by simpa [go_sem, HGN.out, HGN.out.symm] using k1, by simpa [go_sem, HGN.out, HGN.out.symm] using k2, HU2.out.swp0 (i := i) (j := i) HG.out (by omega) (by omega), Sort.permIn_trans _ _ _ _ _ HP.out (Sort.swp_permIn _ _ _ _ _ (by omega) (by omega) (by omega) (by omega) (by rw [HU.out.size]; exact hb))⟩
     case measure => simp [intOf]; omega
    ·go_region
     all_goals go_wp2_with fail
     all_goals go_roundw
     case rel => exact ⟨i + 1, Y, Sort.swp dk i P, by simp, by omega, by omega, HYL.out, by simpa [go_sem, HGN.out, HGN.out.symm] using k1, by simpa [go_sem, HGN.out, HGN.out.symm] using k2, HU2.out.swp0 (i := i) (j := P) HG.out (by omega) (by omega), Sort.permIn_trans _ _ _ _ _ HP.out (Sort.swp_permIn _ _ _ _ _ (by omega) (by omega) (by omega) (by omega) (by rw [HU.out.size]; exact hb))⟩
     case measure => simp [intOf]; omega
   ·obtain ⟨E, hE⟩ : ∃ E, E = O := ⟨_, rfl⟩
    subst hE
    have hEL : E < L := by omega
    obtain ⟨P, hP⟩ : ∃ P, P = a + E := ⟨_, rfl⟩
    have rP : (a : Int) + (E : Int) = (P : Int) := by omega
    have hPa : a ≤ P := by omega
    have hPb : P < b := by omega
    clear hP
    go_wp2_with (go_at_call 192; refine (unext_walk _ X HX.out _ k1 k2).mono ?_; rw [← HY.out]; rintro e w9 ⟨rfl, h9⟩; subst h9)
    generalize hw2 : (wr.setCell ⟨r, 0, none⟩ (.int .u64 (Y : Nat))).drewN 3 = w2
    have HU2 : Hid (Us w g o cap n dk w2) := by show Us _ _ _ _ _ _ _; rw [← hw2]; exact (HU.out.fresh HRN.out HGN.out 0 _).drew 3
    have k1' : w2.cell? ⟨r, 0, none⟩ = some (.int .u64 (Y : Nat)) := by rw [← hw2]; simp [go_sem, k1]
    have k2' : w2.frozen? ⟨r, 0, none⟩ = false := by rw [← hw2]; simpa [go_sem] using k2
    clear hw2 k1 k2
    have k1 := k1'
    have k2 := k2'
    clear k1' k2'
    obtain ⟨G, hG, hcw, hfw⟩ := HU2.out.fam
    have HG : Hid (∀ x, G x = dk[x]!) := hG
    clear hG
    by_cases hiP : i = P
    ·subst hiP
     go_region
     all_goals go_wp2_with fail
     all_goals go_roundw
     case rel => exact ⟨i + 1, Y, Sort.swp dk i i, by simp, by omega, by omega, HYL.out, by simpa [go_sem, HGN.out, HGN.out.symm] using k1, by simpa [go_sem, HGN.out, HGN.out.symm] using k2, HU2.out.swp0 (i := i) (j := i) HG.out (by omega) (by omega), Sort.permIn_trans _ _ _ _ _ HP.out (Sort.swp_permIn _ _ _ _ _ (by omega) (by omega) (by omega) (by omega) (by rw [HU.out.size]; exact hb))⟩
     case measure => simp [intOf]; omega
    ·go_region
     all_goals go_wp2_with fail
     all_goals go_roundw
     case rel => exact ⟨i + 1, Y, Sort.swp dk i P, by simp, by omega, by omega, HYL.out, by simpa [go_sem, HGN.out, HGN.out.symm] using k1, by simpa [go_sem, HGN.out, HGN.out.symm] using k2, HU2.out.swp0 (i := i) (j := P) HG.out (by omega) (by omega), Sort.permIn_trans _ _ _ _ _ HP.out (Sort.swp_permIn _ _ _ _ _ (by omega) (by omega) (by omega) (by omega) (by rw [HU.out.size]; exact hb))⟩
     case measure => simp [intOf]; omega
  ·go_wp2_with fail
   go_end0
   exact ⟨rfl, dk, HU.out, HP.out⟩
end
section
open Go.RowKit Go.Shelf

structure Pd (w : World) (g o cap n a b : Nat) (d : Array Nat) (a' b' : Nat) (dk : Array Nat) (wr : World) : Prop where
 us : Us w g o cap n dk wr
 bn : b ≤ n
 la : a ≤ a'
 lab : a' ≤ b'
 lb : b' ≤ b
 bel : Sort.Below ltN a' b' dk
 fin : ∀ R, Sort.PermIn a' b' dk R → Sort.SortedIn ltN a' b' R → Sort.PermIn a b d R ∧ Sort.SortedIn ltN a b R
theorem Us.none {w w1 w2 : World} {g o cap n : Nat} {d : Array Nat} (h : Us w g o cap n d w1) (k : w1.grownBy w2 none) : Us w g o cap n d w2 :=
 ⟨h.row.kept (k.block g h.row.lt (by simp)), h.size, h.grown.andThen k (by simp)⟩
theorem Pd.perm {w wr w' : World} {g o cap n a b a' b' : Nat} {d dk e : Array Nat} (h : Pd w g o cap n a b d a' b' dk wr) (hu : Us wr g o cap n e w') (hp : Sort.PermIn a' b' dk e) : Pd w g o cap n a b d a' b' e w' := by
 have hb : b' ≤ dk.size := by rw [h.us.size]; have := h.bn; have := h.lb; omega
 exact ⟨h.us.after hu, h.bn, h.la, h.lab, h.lb, h.bel.perm hb hp, fun R h1 h2 => h.fin R (Sort.permIn_trans _ _ _ _ _ hp h1) h2⟩
theorem Pd.none {w w1 w2 : World} {g o cap n a b a' b' : Nat} {d dk : Array Nat} (h : Pd w g o cap n a b d a' b' dk w1) (k : w1.grownBy w2 none) : Pd w g o cap n a b d a' b' dk w2 :=
 ⟨h.us.none k, h.bn, h.la, h.lab, h.lb, h.bel, h.fin⟩
theorem Pd.drew {w w1 : World} {g o cap n a b a' b' : Nat} {d dk : Array Nat} (h : Pd w g o cap n a b d a' b' dk w1) (k : Nat) : Pd w g o cap n a b d a' b' dk (w1.drewN k) :=
 ⟨h.us.drew k, h.bn, h.la, h.lab, h.lb, h.bel, h.fin⟩
theorem Pd.done {w wr w' : World} {g o cap n a b a' b' : Nat} {d dk e : Array Nat} (h : Pd w g o cap n a b d a' b' dk wr) (hu : Us wr g o cap n e w') (hp : Sort.PermIn a' b' dk e) (hs : Sort.SortedIn ltN a' b' e) :
  ∃ d', Us w g o cap n d' w' ∧ Sort.PermIn a b d d' ∧ Sort.SortedIn ltN a b d' := by
 obtain ⟨q1, q2⟩ := h.fin e hp hs
 exact ⟨e, h.us.after hu, q1, q2⟩
theorem Pd.equal {w wr w' : World} {g o cap n a b a' b' p : Nat} {d dk : Array Nat} (h : Pd w g o cap n a b d a' b' dk wr) (ha0 : 0 < a') (hp1 : a' ≤ p) (hp2 : p < b') (hl : ltN dk[a' - 1]! dk[p]! = false) (hu : Us wr g o cap n (Sort.partitionEqual ltN dk a' b' p).2 w') :
  a' < (Sort.partitionEqual ltN dk a' b' p).1 ∧ Pd w g o cap n a b d (Sort.partitionEqual ltN dk a' b' p).1 b' (Sort.partitionEqual ltN dk a' b' p).2 w' := by
 have hb : b' ≤ dk.size := by rw [h.us.size]; have := h.bn; have := h.lb; omega
 obtain ⟨q1, q2, q3, q4, q5⟩ := Sort.round_eq swo_ltN (Sort.partitionEqual_holds ltN) ha0 hp1 hp2 hb h.bel hl (mid := (Sort.partitionEqual ltN dk a' b' p).1) (d4 := (Sort.partitionEqual ltN dk a' b' p).2) rfl
 exact ⟨q1, h.us.after hu, h.bn, by have := h.la; omega, q2, h.lb, q4, fun R r1 r2 => by obtain ⟨s1, s2⟩ := q5 R r1 r2; exact h.fin R s1 s2⟩
theorem Pd.part {w wr w' : World} {g o cap n a b a' b' p : Nat} {d dk : Array Nat} (h : Pd w g o cap n a b d a' b' dk wr) (hp1 : a' ≤ p) (hp2 : p < b') (hu : Us wr g o cap n (Sort.partition ltN dk a' b' p).2.2 w') :
  a' ≤ (Sort.partition ltN dk a' b' p).1 ∧ (Sort.partition ltN dk a' b' p).1 < b' ∧ Us w g o cap n (Sort.partition ltN dk a' b' p).2.2 w' ∧ Sort.Below ltN a' (Sort.partition ltN dk a' b' p).1 (Sort.partition ltN dk a' b' p).2.2 ∧ Sort.Below ltN ((Sort.partition ltN dk a' b' p).1 + 1) b' (Sort.partition ltN dk a' b' p).2.2 ∧
  (∀ e w2, Us w' g o cap n e w2 → Sort.PermIn a' (Sort.partition ltN dk a' b' p).1 (Sort.partition ltN dk a' b' p).2.2 e → Sort.SortedIn ltN a' (Sort.partition ltN dk a' b' p).1 e → Pd w g o cap n a b d ((Sort.partition ltN dk a' b' p).1 + 1) b' e w2) ∧
  (∀ e w2, Us w' g o cap n e w2 → Sort.PermIn ((Sort.partition ltN dk a' b' p).1 + 1) b' (Sort.partition ltN dk a' b' p).2.2 e → Sort.SortedIn ltN ((Sort.partition ltN dk a' b' p).1 + 1) b' e → Pd w g o cap n a b d a' (Sort.partition ltN dk a' b' p).1 e w2) := by
 have hb : b' ≤ dk.size := by rw [h.us.size]; have := h.bn; have := h.lb; omega
 obtain ⟨q1, q2, q3, q4, q5, q6, q7⟩ := Sort.round_part swo_ltN (Sort.partition_holds ltN) hp1 hp2 hb h.bel (mid := (Sort.partition ltN dk a' b' p).1) (ap := (Sort.partition ltN dk a' b' p).2.1) (d4 := (Sort.partition ltN dk a' b' p).2.2) rfl
 have hb' := h.lb
 have ha' := h.la
 refine ⟨q1, q2, h.us.after hu, q4, q5, fun e w2 u1 u2 u3 => ?_, fun e w2 u1 u2 u3 => ?_⟩
 ·obtain ⟨r1, r2⟩ := q6 e u2 u3
  exact ⟨(h.us.after hu).after u1, h.bn, by omega, by omega, by omega, r1, fun R s1 s2 => by obtain ⟨x1, x2⟩ := r2 R s1 s2; exact h.fin R x1 x2⟩
 ·obtain ⟨r1, r2⟩ := q7 e u2 u3
  exact ⟨(h.us.after hu).after u1, h.bn, by omega, by omega, by omega, r1, fun R s1 s2 => by obtain ⟨x1, x2⟩ := r2 R s1 s2; exact h.fin R x1 x2⟩
theorem updq_walk (m : Nat) : ∀ {w : World} {g o cap n a b limit : Nat} {d : Array Nat}, b - a ≤ m → Un w g o cap d → d.size = n → a ≤ b → b ≤ n → n ≤ 2305843009213693951 → limit ≤ 64 → Sort.Below ltN a b d →
  Calls Tryz.prog 105 #[.slice (some ⟨g, o, none⟩) n cap, .int .i64 a, .int .i64 b, .int .i64 limit] w fun e w' => e = .returned (.tuple #[]) ∧ ∃ d', Us w g o cap n d' w' ∧ Sort.PermIn a b d d' ∧ Sort.SortedIn ltN a b d' := by
 induction m using Nat.strongRecOn with
 | ind m ih =>
 intro w g o cap n a b limit d hm h hn hab hb hsz hlim hbel
 have HIH : Hid (∀ m', m' < m → ∀ {w : World} {g o cap n a b limit : Nat} {d : Array Nat}, b - a ≤ m' → Un w g o cap d → d.size = n → a ≤ b → b ≤ n → n ≤ 2305843009213693951 → limit ≤ 64 → Sort.Below ltN a b d →
  Calls Tryz.prog 105 #[.slice (some ⟨g, o, none⟩) n cap, .int .i64 a, .int .i64 b, .int .i64 limit] w fun e w' => e = .returned (.tuple #[]) ∧ ∃ d', Us w g o cap n d' w' ∧ Sort.PermIn a b d d' ∧ Sort.SortedIn ltN a b d') := ih
 have HS : Hid (Pd w g o cap n a b d a b d w) := ⟨hn ▸ Us.start h, hb, Nat.le_refl _, hab, Nat.le_refl _, hbel, fun R h1 h2 => ⟨h1, h2⟩⟩
 clear ih h hn hbel
 go_in
 go_wp2_with fail
 go_loopw [1, 2, 3, 8, 9] (fun av bv lv xv yv wr => ∃ (a' b' lim : Nat) (wb wp : Bool) (D : Array Nat), av = .int .i64 a' ∧ bv = .int .i64 b' ∧ lv = .int .i64 lim ∧ xv = .bool wb ∧ yv = .bool wp ∧ lim ≤ 64 ∧ Pd w g o cap n a b d a' b' D wr) (fun av bv _ _ _ _ => (intOf bv).toNat - (intOf av).toNat)
 case atStart => exact ⟨a, b, limit, true, true, d, rfl, rfl, rfl, rfl, rfl, hlim, HS.out⟩
 case round =>
  clear HS
  obtain ⟨a', b', lim, wb, wp, D, rfl, rfl, rfl, rfl, rfl, hli, hP⟩ := hrel
  have HP := hidH hP
  have h1 := hP.la
  have h2 := hP.lab
  have h3 := hP.lb
  clear hP
  obtain ⟨L, hL⟩ : ∃ L, L = b' - a' := ⟨_, rfl⟩
  have rL : (b' : Int) - (a' : Int) = (L : Int) := by omega
  have hLb : a' + L = b' := by omega
  clear hL
  by_cases h12 : L ≤ 12
  ·go_wp2_with fail
   refine (uins_walk HP.out.us.row HP.out.us.size h2 (by omega) (by omega)).mono ?_
   rintro e w1 ⟨rfl, e1, hU1, hP1, hS1⟩
   go_wp2_with fail
   refine bodyPost_ret (results_none rfl _ _ _) rfl ?_
   exact ⟨rfl, HP.out.done hU1 hP1 hS1⟩
  ·have h12i : ¬ ((L : Int) ≤ 12) := by omega
   by_cases hl0 : lim = 0
   ·have hl0b : ((lim : Int) == 0) = true := by simp [hl0]
    go_wp2_with fail
    refine (uheap_walk HP.out.us.row HP.out.us.size (by omega) (by omega) hsz).mono ?_
    rintro e w1 ⟨rfl, e1, hU1, hP1, hS1⟩
    go_wp2_with fail
    refine bodyPost_ret (results_none rfl _ _ _) rfl ?_
    exact ⟨rfl, HP.out.done hU1 hP1 hS1⟩
   ·have hl0b : ((lim : Int) == 0) = false := by simp; omega
    have hl0i : ¬ ((lim : Int) = 0) := by omega
    go_upto_if 35 with fail
    go_cut [3] (fun lv wx => ∃ (lim : Nat) (D : Array Nat), lv = .int .i64 lim ∧ lim ≤ 64 ∧ Pd w g o cap n a b d a' b' D wx)
    case first =>
     cases wb
     ·go_wp2_with fail
      refine (ubrk_walk HP.out.us.row HP.out.us.size (by omega) (by omega) hsz).mono ?_
      rintro e w1 ⟨rfl, e1, hU1, hP1⟩
      go_wp2_with fail
      go_meet
      exact ⟨lim - 1, e1, by congr 1; omega, by omega, HP.out.perm hU1 hP1⟩
     ·go_wp2_with fail
      go_meet
      exact ⟨lim, D, rfl, hli, HP.out⟩
    case rest =>
     clear HP hl0 hl0b hl0i hli
     obtain ⟨lim2, D1, rfl, hli2, hP1⟩ := hcut
     have HP := hidH hP1
     clear hP1
     go_wp2_with fail
     refine (upiv_walk HP.out.us.row HP.out.us.size (by omega) (by omega) hsz).mono ?_
     rintro e w1 ⟨p0, hint, rfl, hp1, hp2, hh2, hg1⟩
     have HP0 : Hid (Pd w g o cap n a b d a' b' D1 w1) := HP.out.none hg1
     clear HP hg1
     go_upto_if 50 with fail
     go_cut [11, 12] (fun pv hv wx => ∃ (p ht : Nat) (D : Array Nat), pv = .int .i64 p ∧ hv = .int .i64 ht ∧ a' ≤ p ∧ p < b' ∧ Pd w g o cap n a b d a' b' D wx)
     case first =>
      by_cases hd : hint = 2
      ·have hdb : ((hint : Int) == 2) = true := by simp [hd]
       go_wp2_with fail
       refine (urev_walk HP0.out.us.row HP0.out.us.size h2 (by omega) (by omega)).mono ?_
       rintro e w2 ⟨rfl, e1, hU1, hP1⟩
       go_wp2_with fail
       go_meet
       exact ⟨(b' - 1) - (p0 - a'), 1, e1, by congr 1; omega, rfl, by omega, by omega, HP0.out.perm hU1 hP1⟩
      ·have hdb : ((hint : Int) == 2) = false := by simp; omega
       have hdi : ¬ ((hint : Int) = 2) := by omega
       go_wp2_with fail
       go_meet
       exact ⟨p0, hint, D1, rfl, rfl, hp1, hp2, HP0.out⟩
     case rest =>
      clear HP0 hp1 hp2 hh2
      obtain ⟨p, ht, D2, rfl, rfl, hp1, hp2, hP2⟩ := hcut
      have HP := hidH hP2
      clear hP2
      go_upto_region 15 with fail
      go_cut [68] (fun c wx => ∃ cb : Bool, c = .bool cb ∧ Pd w g o cap n a b d a' b' D2 wx)
      case first =>
       by_cases h1t : ht = 1
       ·have h1b : ((ht : Int) == 1) = true := by simp [h1t]
        cases wb <;> cases wp
        all_goals go_wp2_with fail
        all_goals go_meet
        all_goals exact ⟨_, rfl, HP.out⟩
       ·have h1b : ((ht : Int) == 1) = false := by simp; omega
        have h1i : ¬ ((ht : Int) = 1) := by omega
        cases wb <;> cases wp
        all_goals go_wp2_with fail
        all_goals go_meet
        all_goals exact ⟨_, rfl, HP.out⟩
      case rest =>
       clear HP
       obtain ⟨cb, rfl, hP3⟩ := hcut
       have HP := hidH hP3
       clear hP3
       go_upto_if 68 with fail
       go_cut [72] (fun _ wx => ∃ (D : Array Nat), Pd w g o cap n a b d a' b' D wx)
       case first =>
        cases cb
        ·go_wp2_with fail
         go_meet
         exact ⟨D2, HP.out⟩
        ·have HQ : Hid (Sort.PermIn a' b' D2 (Sort.partialInsertionSort ltN D2 a' b').1 ∧ ((Sort.partialInsertionSort ltN D2 a' b').2 = true → Sort.SortedIn ltN a' b' (Sort.partialInsertionSort ltN D2 a' b').1)) :=
          Sort.partialInsertionSort_holds swo_ltN D2 a' b' (by omega) (by rw [HP.out.us.size]; omega) HP.out.bel
         go_wp2_with fail
         refine (upins_walk HP.out.us.row HP.out.us.size (by omega) (by omega) hsz).mono ?_
         generalize Sort.partialInsertionSort ltN D2 a' b' = Z at HQ
         obtain ⟨Z1, Z2⟩ := Z
         rintro e w2 ⟨rfl, hU1⟩
         cases Z2
         ·go_wp2_with fail
          go_meet
          exact ⟨Z1, HP.out.perm hU1 HQ.out.1⟩
         ·have HSS : Hid (Sort.SortedIn ltN a' b' Z1) := HQ.out.2 rfl
          go_wp2_with fail
          refine bodyPost_ret (results_none rfl _ _ _) rfl ?_
          exact ⟨rfl, HP.out.done hU1 HQ.out.1 HSS.out⟩
       case rest =>
        clear HP
        obtain ⟨D3, hP4⟩ := hcut
        have HP := hidH hP4
        obtain ⟨G, hG, hcw, hfw⟩ := hP4.us.fam
        have HG : Hid (∀ x, G x = D3[x]!) := hG
        clear hP4 hG
        go_wp2_with fail
        go_cut [87] (fun c wx => c = .bool (decide (0 < a') && !ltN (G (a' - 1)) (G p)) ∧ Pd w g o cap n a b d a' b' D3 wx)
        case first =>
         by_cases ha0 : 0 < a'
         ·go_quiet ((go_at_call 155; exact Calls.quiet_of_same (uless_walk _ _ _)))
          go_wp2_with fail
          go_meet
          exact ⟨by simp [ha0], HP.out.drew _⟩
         ·go_quiet (fail)
          go_wp2_with fail
          go_meet
          exact ⟨by simp [ha0], HP.out.drew _⟩
        case rest =>
         clear HP hcw hfw
         obtain ⟨rfl, hP5⟩ := hcut
         have HP := hidH hP5
         clear hP5
         cases hc : (decide (0 < a') && !ltN (G (a' - 1)) (G p))
         ·clear hc HG
          go_wp2_with fail
          refine (upart_walk HP.out.us.row HP.out.us.size hp1 hp2 (by omega) hsz).mono ?_
          rintro e w2 ⟨mid, ap, rfl, hmid, hU1⟩
          have hq := HP.out.part hp1 hp2 hU1
          generalize Sort.partition ltN D3 a' b' p = Z at hmid hU1 hq
          obtain ⟨Z1, Z2, Z3⟩ := Z
          dsimp only at hmid hU1 hq
          subst hmid
          obtain ⟨q1, q2, q3, q4, q5, q6, q7⟩ := hq
          have HQ3 := hidH q3
          have HQ4 := hidH q4
          have HQ5 := hidH q5
          have HQ6 := hidH q6
          have HQ7 := hidH q7
          clear q3 q4 q5 q6 q7 hU1 HP
          by_cases hlr : mid - a' < b' - mid
          ·have hlri : (mid : Int) - (a' : Int) < (b' : Int) - (mid : Int) := by omega
           have HC : Hid (Calls Tryz.prog 105 #[.slice (some ⟨g, o, none⟩) n cap, .int .i64 a', .int .i64 mid, .int .i64 lim2] w2 fun e w' => e = .returned (.tuple #[]) ∧ ∃ d', Us w2 g o cap n d' w' ∧ Sort.PermIn a' mid Z3 d' ∧ Sort.SortedIn ltN a' mid d') :=
            HIH.out (mid - a') (by omega) (Nat.le_refl _) HQ3.out.row HQ3.out.size q1 (by omega) hsz hli2 HQ4.out
           go_wp2_with fail
           refine Calls.mono HC.out ?_
           rintro e w3 ⟨rfl, e1, u1, u2, u3⟩
           go_wp2_with fail
           go_roundw
           case rel => exact ⟨mid + 1, b', lim2, _, ap, e1, by simp, rfl, rfl, rfl, rfl, hli2, HQ6.out e1 _ u1 u2 u3⟩
           case measure => simp [intOf]; omega
          ·have hlri : ¬ ((mid : Int) - (a' : Int) < (b' : Int) - (mid : Int)) := by omega
           have HC : Hid (Calls Tryz.prog 105 #[.slice (some ⟨g, o, none⟩) n cap, .int .i64 ((mid + 1 : Nat) : Int), .int .i64 b', .int .i64 lim2] w2 fun e w' => e = .returned (.tuple #[]) ∧ ∃ d', Us w2 g o cap n d' w' ∧ Sort.PermIn (mid + 1) b' Z3 d' ∧ Sort.SortedIn ltN (mid + 1) b' d') :=
            HIH.out (b' - (mid + 1)) (by omega) (Nat.le_refl _) HQ3.out.row HQ3.out.size (by omega) (by omega) hsz hli2 HQ5.out
           go_wp2_with fail
           refine Calls.mono HC.out ?_
           rintro e w3 ⟨rfl, e1, u1, u2, u3⟩
           go_wp2_with fail
           go_roundw
           case rel => exact ⟨a', mid, lim2, _, ap, e1, rfl, rfl, rfl, rfl, rfl, hli2, HQ7.out e1 _ u1 u2 u3⟩
           case measure => simp [intOf]; omega
         ·have ha0 : 0 < a' := by simp at hc; exact hc.1
          have hl : ltN D3[a' - 1]! D3[p]! = false := by
           simp only [ha0, decide_true, Bool.true_and, Bool.not_eq_true'] at hc
           rw [HG.out, HG.out] at hc
           exact hc
          clear hc HG
          have HLL : Hid (ltN D3[a' - 1]! D3[p]! = false) := hl
          clear hl
          go_wp2_with fail
          refine (upeq_walk HP.out.us.row HP.out.us.size hp1 hp2 (by omega) hsz).mono ?_
          rintro e w2 ⟨mid, rfl, hmid, hU1⟩
          have hq := HP.out.equal ha0 hp1 hp2 HLL.out hU1
          rw [← hmid] at hq
          obtain ⟨q1, q2⟩ := hq
          have HQ := hidH q2
          have hmb := q2.lab
          clear q2 hmid hU1
          go_wp2_with fail
          go_roundw
          case rel => exact ⟨mid, b', lim2, wb, wp, _, rfl, rfl, rfl, rfl, rfl, hli2, HQ.out⟩
          case measure => simp [intOf]; omega
theorem usort_walk {w : World} {g o cap n : Nat} {d : Array Nat} (h : Un w g o cap d) (hn : d.size = n) (hsz : n ≤ 2305843009213693951) :
  Calls Tryz.prog 58 #[.slice (some ⟨g, o, none⟩) n cap] w fun e w' => e = .returned (.tuple #[]) ∧ ∃ d', Us w g o cap n d' w' ∧ Sort.PermIn 0 n d d' ∧ Sort.SortedIn ltN 0 n d' := by
 have HU : Hid (Un w g o cap d) := h
 have HN : Hid (d.size = n) := hn
 have hwn : IntKind.u64.wrap (n : Int) = (n : Int) := by rw [IntKind.wrap_u64]; omega
 clear h hn
 go_in
 go_wp2_with (go_at_call 106; refine (ulen_walk n (by omega) _).mono ?_; rintro e w9 ⟨⟨m, hm, rfl⟩, h9⟩; have h9 := h9.symm; subst h9)
 refine (updq_walk n (a := 0) (by omega) HU.out HN.out (Nat.zero_le _) (Nat.le_refl _) hsz hm (Or.inl rfl)).mono ?_
 rintro e w1 ⟨rfl, hq⟩
 go_wp2_with fail
 go_end0
 exact ⟨rfl, hq⟩
end
section
open Go.RowKit

def RiseK (l : List Nat) : Prop := l.Pairwise (· < ·)
def insK (k : Nat) : List Nat → List Nat
 | [] => [k]
 | a :: l => if k < a then k :: a :: l else if k = a then a :: l else a :: insK k l
theorem mem_insK {k x : Nat} {l : List Nat} : x ∈ insK k l ↔ x = k ∨ x ∈ l := by
 induction l with
 | nil => simp [insK]
 | cons a l ih =>
  unfold insK
  split
  ·simp
  ·split
   ·rename_i h; subst h; simp
   ·simp only [List.mem_cons, ih]
    constructor
    ·rintro (h | h | h)
     ·exact .inr (.inl h)
     ·exact .inl h
     ·exact .inr (.inr h)
    ·rintro (h | h | h)
     ·exact .inr (.inl h)
     ·exact .inl h
     ·exact .inr (.inr h)
theorem rise_insK {k : Nat} {l : List Nat} (h : RiseK l) : RiseK (insK k l) := by
 induction l with
 | nil => simp [insK, RiseK]
 | cons a l ih =>
  obtain ⟨h1, h2⟩ := List.pairwise_cons.1 h
  unfold insK
  split
  ·rename_i hk
   exact List.pairwise_cons.2 ⟨fun x hx => by rcases List.mem_cons.1 hx with rfl | hx; exact hk; exact Nat.lt_trans hk (h1 x hx), h⟩
  ·split
   ·exact h
   ·refine List.pairwise_cons.2 ⟨fun x hx => ?_, ih h2⟩
    rcases mem_insK.1 hx with rfl | hx
    ·omega
    ·exact h1 x hx
theorem insK_old {k : Nat} {l : List Nat} (h : RiseK l) (hk : k ∈ l) : insK k l = l := by
 induction l with
 | nil => simp at hk
 | cons a l ih =>
  obtain ⟨h1, h2⟩ := List.pairwise_cons.1 h
  unfold insK
  rcases List.mem_cons.1 hk with rfl | hk
  ·rw [if_neg (by omega), if_pos rfl]
  ·have := h1 k hk
   rw [if_neg (by omega), if_neg (by omega), ih h2 hk]
theorem rise_ext {l m : List Nat} (hl : RiseK l) (hm : RiseK m) (h : ∀ x, x ∈ l ↔ x ∈ m) : l = m := by
 induction l generalizing m with
 | nil => cases m with
  | nil => rfl
  | cons b m => have := (h b).2 (by simp); simp at this
 | cons a l ih =>
  obtain ⟨a1, a2⟩ := List.pairwise_cons.1 hl
  cases m with
  | nil => have := (h a).1 (by simp); simp at this
  | cons b m =>
   obtain ⟨b1, b2⟩ := List.pairwise_cons.1 hm
   have hab : a = b := by
    have ha := (h a).1 (by simp)
    have hb := (h b).2 (by simp)
    rcases List.mem_cons.1 ha with e | ha
    ·exact e
    ·rcases List.mem_cons.1 hb with e | hb
     ·exact e.symm
     ·have := b1 a ha; have := a1 b hb; omega
   subst hab
   congr 1
   refine ih a2 b2 fun x => ?_
   constructor
   ·intro hx
    rcases List.mem_cons.1 ((h x).1 (List.mem_cons_of_mem _ hx)) with e | hx'
    ·have := a1 x hx; omega
    ·exact hx'
   ·intro hx
    rcases List.mem_cons.1 ((h x).2 (List.mem_cons_of_mem _ hx)) with e | hx'
    ·have := b1 x hx; omega
    ·exact hx'
theorem own_un {w : World} {base g n cap : Nat} {m : List Nat} (h : w.ownsRow base 33 1 (.slice (some ⟨g, 0, none⟩) n cap) n (m.map fun k => .int .u64 (k : Nat))) : Un w g 0 cap m.toArray := by
 obtain ⟨h1, h2⟩ := h
 have hn : n = m.length := by simp at h1; omega
 subst hn
 rcases h2 with ⟨h, _⟩ | ⟨g', cap', cur, e1, hb, hg, hnc, hcm, hcs, htake⟩
 ·cases h
 ·simp only [Value.slice.injEq, Option.some.injEq, Addr.mk.injEq] at e1
  obtain ⟨⟨rfl, _⟩, _, rfl⟩ := e1
  refine ⟨cur, hg, by simpa using hcs, by simpa using hnc, fun j hj => ?_⟩
  have hj' : j < m.length := by simpa using hj
  have e := congrArg (fun l => l[j]?) htake
  simp only [List.getElem?_take, Nat.mul_one, if_pos hj', List.getElem?_map, List.getElem?_eq_getElem hj'] at e
  rw [Nat.zero_add, ← Array.getElem?_toList, e]
  simp [hj']
def uniU (l : List Nat) : List Nat := l.foldl (fun t k => insK k t) []
theorem fold_ins (l t : List Nat) (h : RiseK t) : RiseK (l.foldl (fun t k => insK k t) t) ∧ ∀ x, x ∈ l.foldl (fun t k => insK k t) t ↔ x ∈ t ∨ x ∈ l := by
 induction l generalizing t with
 | nil => exact ⟨h, by simp⟩
 | cons k r ih =>
  obtain ⟨h1, h2⟩ := ih (insK k t) (rise_insK h)
  refine ⟨h1, fun x => ?_⟩
  rw [List.foldl_cons, h2, mem_insK, List.mem_cons]
  constructor
  ·rintro ((h | h) | h)
   ·exact .inr (.inl h)
   ·exact .inl h
   ·exact .inr (.inr h)
  ·rintro (h | h | h)
   ·exact .inl (.inr h)
   ·exact .inl (.inl h)
   ·exact .inr h
theorem rise_uni (l : List Nat) : RiseK (uniU l) := (fold_ins l [] List.Pairwise.nil).1
theorem mem_uni {l : List Nat} {x : Nat} : x ∈ uniU l ↔ x ∈ l := by rw [uniU, (fold_ins l [] List.Pairwise.nil).2]; simp
theorem comp_inv (d : Array Nat) (hs : Sort.SortedIn ltN 0 d.size d) (m : Nat) (hm : m ≤ d.size) : RiseK (Lib.compactUpTo d m) ∧ (∀ x ∈ Lib.compactUpTo d m, ∀ j, m ≤ j + 1 → j < d.size → x ≤ d[j]!) ∧ ∀ x, x ∈ Lib.compactUpTo d m ↔ ∃ j, j < m ∧ d[j]! = x := by
 have le : ∀ i j, i ≤ j → j < d.size → d[i]! ≤ d[j]! := fun i j hij hj => by
  rcases Nat.eq_or_lt_of_le hij with e | e
  ·rw [e]; exact Nat.le_refl _
  ·have := hs i j (Nat.zero_le _) e hj
   simp [ltN] at this; exact this
 induction m with
 | zero => simp [Lib.compactUpTo, RiseK]
 | succ m ih =>
  obtain ⟨h1, h2, h3⟩ := ih (by omega)
  rw [Lib.compactUpTo_succ]
  cases hk : Lib.keeps d m
  ·simp only [Bool.false_eq_true, if_false, List.append_nil]
   have hq : m ≠ 0 ∧ d[m]! = d[m - 1]! := by
    simp only [Lib.keeps, decide_eq_false_iff_not, not_or, Decidable.not_not] at hk
    exact hk
   refine ⟨h1, fun x hx j hj hjd => h2 x hx j (by omega) hjd, fun x => ?_⟩
   rw [h3]
   constructor
   ·rintro ⟨j, hj, e⟩; exact ⟨j, by omega, e⟩
   ·rintro ⟨j, hj, e⟩
    rcases Nat.lt_or_ge j m with q | q
    ·exact ⟨j, q, e⟩
    ·obtain rfl : j = m := by omega
     exact ⟨j - 1, by omega, by rw [← hq.2]; exact e⟩
  ·simp only [if_true]
   refine ⟨?_, ?_, ?_⟩
   ·unfold RiseK at h1 ⊢
    rw [List.pairwise_append]
    refine ⟨h1, List.pairwise_singleton _ _, fun x hx y hy => ?_⟩
    rw [List.mem_singleton] at hy
    subst hy
    have hm0 : m ≠ 0 := by rintro rfl; simp [Lib.compactUpTo] at hx
    have a := h2 x hx (m - 1) (by omega) (by omega)
    have b := le (m - 1) m (by omega) (by omega)
    have c : d[m]! ≠ d[m - 1]! := by
     simp only [Lib.keeps, decide_eq_true_eq] at hk
     rcases hk with h | h
     ·exact absurd h hm0
     ·exact h
    omega
   ·intro x hx j hj hjd
    rw [List.mem_append, List.mem_singleton] at hx
    rcases hx with hx | rfl
    ·exact h2 x hx j (by omega) hjd
    ·exact le m j (by omega) hjd
   ·intro x
    rw [List.mem_append, List.mem_singleton, h3]
    constructor
    ·rintro (⟨j, hj, e⟩ | rfl)
     ·exact ⟨j, by omega, e⟩
     ·exact ⟨m, by omega, rfl⟩
    ·rintro ⟨j, hj, e⟩
     rcases Nat.lt_or_ge j m with q | q
     ·exact .inl ⟨j, q, e⟩
     ·obtain rfl : j = m := by omega
      exact .inr e.symm
theorem comp_uni {d d' : Array Nat} {l : List Nat} (hd : d.toList = l) (hn : d'.size = d.size) (hp : Sort.PermIn 0 d.size d d') (hs : Sort.SortedIn ltN 0 d.size d') : Lib.compactUpTo d' d'.size = uniU l := by
 have hs' : Sort.SortedIn ltN 0 d'.size d' := by rw [hn]; exact hs
 obtain ⟨h1, _, h3⟩ := comp_inv d' hs' d'.size (Nat.le_refl _)
 refine rise_ext h1 (rise_uni l) (fun x => ?_)
 have hperm : d'.toList.Perm d.toList := by
  have := hp.2.2
  have e1 : (d'.extract 0 d.size) = d' := by rw [← hn]; simp
  have e2 : (d.extract 0 d.size) = d := by simp
  rw [e1, e2] at this; exact this
 rw [h3, mem_uni, ← hd, ← hperm.mem_iff]
 constructor
 ·rintro ⟨j, hj, rfl⟩
  rw [getElem!_pos d' j hj]
  exact Array.getElem_mem_toList hj
 ·intro hx
  obtain ⟨j, hj, e⟩ := List.mem_iff_getElem.1 hx
  have hj' : j < d'.size := by simpa using hj
  exact ⟨j, hj', by rw [getElem!_pos d' j hj', ← e]; simp⟩
theorem un_holds {w : World} {g cap : Nat} {d : Array Nat} (h : Un w g 0 cap d) : Sort.Holds encN w g 0 d := fun j hj => ⟨h.cell hj, h.soft j⟩
theorem row_own {w : World} {g cap q k base : Nat} {d arr : Array Nat} (h : Un w g 0 cap d) (ha : arr.size = d.size) (hk : k ≤ d.size) (hb : base ≤ g) (hc : cap ≤ maxLen) :
  (Sort.putRow encN (Sort.ahead w q) g 0 arr).ownsRow base 33 1 (.slice (some ⟨g, 0, none⟩) k cap) k ((ib (arr.toList.take k)).map (Value.int .u64)) := by
 obtain ⟨cur, h1, h2, h3, h4⟩ := h
 refine ⟨by simp [ib]; omega, .inr ⟨g, cap, Sort.putCells encN 0 arr cur, rfl, hb, ?_, by omega, hc, by simp [Sort.putCells]; omega, ?_⟩⟩
 ·simp [Sort.putRow, Sort.mapBlock, Sort.ahead, Array.getElem?_modify, h1, Sort.onCells]
 ·apply List.ext_getElem?
  intro j
  by_cases hj : j < k
  ·have hjd : j < d.size := by omega
   have hc0 := h4 j hjd
   rw [Nat.zero_add] at hc0
   have hja : j < arr.size := by omega
   rw [List.getElem?_take, if_pos (by omega), Array.getElem?_toList, Sort.putCells, Array.getElem?_mapIdx, hc0]
   simp only [Option.map_some, Nat.zero_le, Nat.zero_add, true_and, hja, if_true, Nat.sub_zero]
   simp [ib, encN, hj, hja]
  ·rw [List.getElem?_take, if_neg (by omega), List.getElem?_eq_none (by simp [ib]; omega)]
theorem below_putRow {B : Nat} {w w1 : World} {g q : Nat} {arr : Array Nat} (h : Below B w w1) (hg : B ≤ g) : Below B w (Sort.putRow encN (Sort.ahead w1 q) g 0 arr) :=
 ⟨h.os, h.tape, h.output, by rw [Sort.size_putRow]; exact h.size, fun k hk => by
  rw [← h.block k hk]
  simp [Sort.putRow, Sort.mapBlock, Sort.ahead, Array.getElem?_modify, show g ≠ k by omega]⟩
end
end Go.Proofs.YtofkhgokfdpdiabGreat
