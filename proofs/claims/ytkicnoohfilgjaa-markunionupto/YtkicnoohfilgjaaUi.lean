/- The sort of numbers, whole. -/
import Derived.Test.YtkicnoohfilgjaaUh

namespace Go.Proofs.Ytkicnoohfilgjaa

open Go.RowKit Go.Shelf



/-- Where the sort stands: what is left is [a', b'), and that sorted is the whole sorted. -/
structure Pd (w : World) (g o cap n a b : Nat) (d : Array Nat) (a' b' : Nat) (dk : Array Nat) (wr : World) : Prop where
  us : Us w g o cap n dk wr
  bn : b ≤ n
  la : a ≤ a'
  lab : a' ≤ b'
  lb : b' ≤ b
  bel : Sort.Below ltN a' b' dk
  fin : ∀ R, Sort.PermIn a' b' dk R → Sort.SortedIn ltN a' b' R → Sort.PermIn a b d R ∧ Sort.SortedIn ltN a b R


theorem Us.none {w w1 w2 : World} {g o cap n : Nat} {d : Array Nat} (h : Us w g o cap n d w1) (k : w1.grownBy w2 none) : Us w g o cap n d w2 :=
  ⟨h.row.kept (k.block g h.row.lt (by simp)), h.size, h.grown.andThen k (by simp)⟩
theorem Pd.perm {w wr w' : World} {g o cap n a b a' b' : Nat} {d dk e : Array Nat} (h : Pd w g o cap n a b d a' b' dk wr) (hu : Us wr g o cap n e w') (hp : Sort.PermIn a' b' dk e) : Pd w g o cap n a b d a' b' e w' := by
  have hb : b' ≤ dk.size := by rw [h.us.size]; have := h.bn; have := h.lb; omega
  exact ⟨h.us.after hu, h.bn, h.la, h.lab, h.lb, h.bel.perm hb hp, fun R h1 h2 => h.fin R (Sort.permIn_trans _ _ _ _ _ hp h1) h2⟩
theorem Pd.none {w w1 w2 : World} {g o cap n a b a' b' : Nat} {d dk : Array Nat} (h : Pd w g o cap n a b d a' b' dk w1) (k : w1.grownBy w2 none) : Pd w g o cap n a b d a' b' dk w2 :=
  ⟨h.us.none k, h.bn, h.la, h.lab, h.lb, h.bel, h.fin⟩
theorem Pd.drew {w w1 : World} {g o cap n a b a' b' : Nat} {d dk : Array Nat} (h : Pd w g o cap n a b d a' b' dk w1) (k : Nat) : Pd w g o cap n a b d a' b' dk (w1.drewN k) :=
  ⟨h.us.drew k, h.bn, h.la, h.lab, h.lb, h.bel, h.fin⟩
theorem Pd.done {w wr w' : World} {g o cap n a b a' b' : Nat} {d dk e : Array Nat} (h : Pd w g o cap n a b d a' b' dk wr) (hu : Us wr g o cap n e w') (hp : Sort.PermIn a' b' dk e) (hs : Sort.SortedIn ltN a' b' e) :
    ∃ d', Us w g o cap n d' w' ∧ Sort.PermIn a b d d' ∧ Sort.SortedIn ltN a b d' := by
  obtain ⟨q1, q2⟩ := h.fin e hp hs
  exact ⟨e, h.us.after hu, q1, q2⟩
theorem Pd.equal {w wr w' : World} {g o cap n a b a' b' p : Nat} {d dk : Array Nat} (h : Pd w g o cap n a b d a' b' dk wr) (ha0 : 0 < a') (hp1 : a' ≤ p) (hp2 : p < b') (hl : ltN dk[a' - 1]! dk[p]! = false) (hu : Us wr g o cap n (Sort.partitionEqual ltN dk a' b' p).2 w') :
    a' < (Sort.partitionEqual ltN dk a' b' p).1 ∧ Pd w g o cap n a b d (Sort.partitionEqual ltN dk a' b' p).1 b' (Sort.partitionEqual ltN dk a' b' p).2 w' := by
  have hb : b' ≤ dk.size := by rw [h.us.size]; have := h.bn; have := h.lb; omega
  obtain ⟨q1, q2, q3, q4, q5⟩ := Sort.round_eq swo_ltN (Sort.partitionEqual_holds ltN) ha0 hp1 hp2 hb h.bel hl (mid := (Sort.partitionEqual ltN dk a' b' p).1) (d4 := (Sort.partitionEqual ltN dk a' b' p).2) rfl
  exact ⟨q1, h.us.after hu, h.bn, by have := h.la; omega, q2, h.lb, q4, fun R r1 r2 => by obtain ⟨s1, s2⟩ := q5 R r1 r2; exact h.fin R s1 s2⟩
/-- Behind a partition: both sides are to be sorted, in either order. -/
theorem Pd.part {w wr w' : World} {g o cap n a b a' b' p : Nat} {d dk : Array Nat} (h : Pd w g o cap n a b d a' b' dk wr) (hp1 : a' ≤ p) (hp2 : p < b') (hu : Us wr g o cap n (Sort.partition ltN dk a' b' p).2.2 w') :
    a' ≤ (Sort.partition ltN dk a' b' p).1 ∧ (Sort.partition ltN dk a' b' p).1 < b' ∧ Us w g o cap n (Sort.partition ltN dk a' b' p).2.2 w' ∧ Sort.Below ltN a' (Sort.partition ltN dk a' b' p).1 (Sort.partition ltN dk a' b' p).2.2 ∧ Sort.Below ltN ((Sort.partition ltN dk a' b' p).1 + 1) b' (Sort.partition ltN dk a' b' p).2.2 ∧
    (∀ e w2, Us w' g o cap n e w2 → Sort.PermIn a' (Sort.partition ltN dk a' b' p).1 (Sort.partition ltN dk a' b' p).2.2 e → Sort.SortedIn ltN a' (Sort.partition ltN dk a' b' p).1 e → Pd w g o cap n a b d ((Sort.partition ltN dk a' b' p).1 + 1) b' e w2) ∧
    (∀ e w2, Us w' g o cap n e w2 → Sort.PermIn ((Sort.partition ltN dk a' b' p).1 + 1) b' (Sort.partition ltN dk a' b' p).2.2 e → Sort.SortedIn ltN ((Sort.partition ltN dk a' b' p).1 + 1) b' e → Pd w g o cap n a b d a' (Sort.partition ltN dk a' b' p).1 e w2) := by
  have hb : b' ≤ dk.size := by rw [h.us.size]; have := h.bn; have := h.lb; omega
  obtain ⟨q1, q2, q3, q4, q5, q6, q7⟩ := Sort.round_part swo_ltN (Sort.partition_holds ltN) hp1 hp2 hb h.bel (mid := (Sort.partition ltN dk a' b' p).1) (ap := (Sort.partition ltN dk a' b' p).2.1) (d4 := (Sort.partition ltN dk a' b' p).2.2) rfl
  have hb' := h.lb
  have ha' := h.la
  refine ⟨q1, q2, h.us.after hu, q4, q5, fun e w2 u1 u2 u3 => ?_, fun e w2 u1 u2 u3 => ?_⟩
  · obtain ⟨r1, r2⟩ := q6 e u2 u3
    exact ⟨(h.us.after hu).after u1, h.bn, by omega, by omega, by omega, r1, fun R s1 s2 => by obtain ⟨x1, x2⟩ := r2 R s1 s2; exact h.fin R x1 x2⟩
  · obtain ⟨r1, r2⟩ := q7 e u2 u3
    exact ⟨(h.us.after hu).after u1, h.bn, by omega, by omega, by omega, r1, fun R s1 s2 => by obtain ⟨x1, x2⟩ := r2 R s1 s2; exact h.fin R x1 x2⟩


set_option maxRecDepth 100000 in
set_option maxHeartbeats 8000000 in
theorem updq_walk (m : Nat) : ∀ {w : World} {g o cap n a b limit : Nat} {d : Array Nat}, b - a ≤ m → Un w g o cap d → d.size = n → a ≤ b → b ≤ n → n ≤ 2305843009213693951 → limit ≤ 64 → Sort.Below ltN a b d →
    Calls Try.prog 39 #[.slice (some ⟨g, o, none⟩) n cap, .int .i64 a, .int .i64 b, .int .i64 limit] w fun e w' => e = .returned (.tuple #[]) ∧ ∃ d', Us w g o cap n d' w' ∧ Sort.PermIn a b d d' ∧ Sort.SortedIn ltN a b d' := by
  induction m using Nat.strongRecOn with
  | ind m ih =>
  intro w g o cap n a b limit d hm h hn hab hb hsz hlim hbel
  have HIH : Hid (∀ m', m' < m → ∀ {w : World} {g o cap n a b limit : Nat} {d : Array Nat}, b - a ≤ m' → Un w g o cap d → d.size = n → a ≤ b → b ≤ n → n ≤ 2305843009213693951 → limit ≤ 64 → Sort.Below ltN a b d →
    Calls Try.prog 39 #[.slice (some ⟨g, o, none⟩) n cap, .int .i64 a, .int .i64 b, .int .i64 limit] w fun e w' => e = .returned (.tuple #[]) ∧ ∃ d', Us w g o cap n d' w' ∧ Sort.PermIn a b d d' ∧ Sort.SortedIn ltN a b d') := ih
  have HS : Hid (Pd w g o cap n a b d a b d w) := ⟨hn ▸ Us.start h, hb, Nat.le_refl _, hab, Nat.le_refl _, hbel, fun R h1 h2 => ⟨h1, h2⟩⟩
  clear ih h hn hbel
  go_enter Try.func39, Try.ntmps39
  go_wp2_with fail
  go_loopw [1, 2, 3, 8, 9] (fun av bv lv xv yv wr => ∃ (a' b' lim : Nat) (wb wp : Bool) (D : Array Nat), av = .int .i64 a' ∧ bv = .int .i64 b' ∧ lv = .int .i64 lim ∧ xv = .bool wb ∧ yv = .bool wp ∧ lim ≤ 64 ∧ Pd w g o cap n a b d a' b' D wr) (fun av bv _ _ _ _ => (intOf bv).toNat - (intOf av).toNat)
  case atStart => exact ⟨a, b, limit, true, true, d, rfl, rfl, rfl, rfl, rfl, hlim, HS.out⟩
  case round =>
    clear HS
    obtain ⟨a', b', lim, wb, wp, D, rfl, rfl, rfl, rfl, rfl, hli, hP⟩ := hrel
    have HP : Hid (Pd w g o cap n a b d a' b' D wr) := hP
    have h1 := hP.la
    have h2 := hP.lab
    have h3 := hP.lb
    clear hP
    obtain ⟨L, hL⟩ : ∃ L, L = b' - a' := ⟨_, rfl⟩
    have rL : (b' : Int) - (a' : Int) = (L : Int) := by omega
    have hLb : a' + L = b' := by omega
    clear hL
    by_cases h12 : L ≤ 12
    · go_wp2_with fail
      refine (uins_walk HP.out.us.row HP.out.us.size h2 (by omega) (by omega)).mono ?_
      rintro e w1 ⟨rfl, e1, hU1, hP1, hS1⟩
      go_wp2_with fail
      refine bodyPost_ret (results_none rfl _ _ _) rfl ?_
      exact ⟨rfl, HP.out.done hU1 hP1 hS1⟩
    · have h12i : ¬ ((L : Int) ≤ 12) := by omega
      by_cases hl0 : lim = 0
      · have hl0b : ((lim : Int) == 0) = true := by simp [hl0]
        go_wp2_with fail
        refine (uheap_walk HP.out.us.row HP.out.us.size (by omega) (by omega) hsz).mono ?_
        rintro e w1 ⟨rfl, e1, hU1, hP1, hS1⟩
        go_wp2_with fail
        refine bodyPost_ret (results_none rfl _ _ _) rfl ?_
        exact ⟨rfl, HP.out.done hU1 hP1 hS1⟩
      · have hl0b : ((lim : Int) == 0) = false := by simp; omega
        have hl0i : ¬ ((lim : Int) = 0) := by omega
        go_upto_if 35 with fail
        go_cut [3] (fun lv wx => ∃ (lim : Nat) (D : Array Nat), lv = .int .i64 lim ∧ lim ≤ 64 ∧ Pd w g o cap n a b d a' b' D wx)
        case first =>
          cases wb
          · go_wp2_with fail
            refine (ubrk_walk HP.out.us.row HP.out.us.size (by omega) (by omega) hsz).mono ?_
            rintro e w1 ⟨rfl, e1, hU1, hP1⟩
            go_wp2_with fail
            go_meet
            exact ⟨lim - 1, e1, by congr 1; omega, by omega, HP.out.perm hU1 hP1⟩
          · go_wp2_with fail
            go_meet
            exact ⟨lim, D, rfl, hli, HP.out⟩
        case rest =>
          clear HP hl0 hl0b hl0i hli
          obtain ⟨lim2, D1, rfl, hli2, hP1⟩ := hcut
          have HP : Hid (Pd w g o cap n a b d a' b' D1 wc) := hP1
          clear hP1
          go_wp2_with fail
          refine (upiv_walk HP.out.us.row HP.out.us.size (by omega) (by omega) hsz).mono ?_
          rintro e w1 ⟨p0, hint, rfl, hp1, hp2, hh2, hg1⟩
          have HP0 : Hid (Pd w g o cap n a b d a' b' D1 w1) := HP.out.none hg1
          clear HP hg1
          go_upto_if 50 with fail
          go_cut [11, 12] (fun pv hv wx => ∃ (p ht : Nat) (D : Array Nat), pv = .int .i64 p ∧ hv = .int .i64 ht ∧ a' ≤ p ∧ p < b' ∧ Pd w g o cap n a b d a' b' D wx)
          case first =>
            by_cases hd : hint = 2
            · have hdb : ((hint : Int) == 2) = true := by simp [hd]
              go_wp2_with fail
              refine (urev_walk HP0.out.us.row HP0.out.us.size h2 (by omega) (by omega)).mono ?_
              rintro e w2 ⟨rfl, e1, hU1, hP1⟩
              go_wp2_with fail
              go_meet
              exact ⟨(b' - 1) - (p0 - a'), 1, e1, by congr 1; omega, rfl, by omega, by omega, HP0.out.perm hU1 hP1⟩
            · have hdb : ((hint : Int) == 2) = false := by simp; omega
              have hdi : ¬ ((hint : Int) = 2) := by omega
              go_wp2_with fail
              go_meet
              exact ⟨p0, hint, D1, rfl, rfl, hp1, hp2, HP0.out⟩
          case rest =>
            clear HP0 hp1 hp2 hh2
            obtain ⟨p, ht, D2, rfl, rfl, hp1, hp2, hP2⟩ := hcut
            have HP : Hid (Pd w g o cap n a b d a' b' D2 wc) := hP2
            clear hP2
            go_upto_region 15 with fail
            go_cut [68] (fun c wx => ∃ cb : Bool, c = .bool cb ∧ Pd w g o cap n a b d a' b' D2 wx)
            case first =>
              by_cases h1t : ht = 1
              · have h1b : ((ht : Int) == 1) = true := by simp [h1t]
                cases wb <;> cases wp
                all_goals go_wp2_with fail
                all_goals go_meet
                all_goals exact ⟨_, rfl, HP.out⟩
              · have h1b : ((ht : Int) == 1) = false := by simp; omega
                have h1i : ¬ ((ht : Int) = 1) := by omega
                cases wb <;> cases wp
                all_goals go_wp2_with fail
                all_goals go_meet
                all_goals exact ⟨_, rfl, HP.out⟩
            case rest =>
              clear HP
              obtain ⟨cb, rfl, hP3⟩ := hcut
              have HP : Hid (Pd w g o cap n a b d a' b' D2 wc) := hP3
              clear hP3
              go_upto_if 68 with fail
              go_cut [72] (fun _ wx => ∃ (D : Array Nat), Pd w g o cap n a b d a' b' D wx)
              case first =>
                cases cb
                · go_wp2_with fail
                  go_meet
                  exact ⟨D2, HP.out⟩
                · have HQ : Hid (Sort.PermIn a' b' D2 (Sort.partialInsertionSort ltN D2 a' b').1 ∧ ((Sort.partialInsertionSort ltN D2 a' b').2 = true → Sort.SortedIn ltN a' b' (Sort.partialInsertionSort ltN D2 a' b').1)) :=
                    Sort.partialInsertionSort_holds swo_ltN D2 a' b' (by omega) (by rw [HP.out.us.size]; omega) HP.out.bel
                  go_wp2_with fail
                  refine (upins_walk HP.out.us.row HP.out.us.size (by omega) (by omega) hsz).mono ?_
                  generalize Sort.partialInsertionSort ltN D2 a' b' = Z at HQ
                  obtain ⟨Z1, Z2⟩ := Z
                  rintro e w2 ⟨rfl, hU1⟩
                  cases Z2
                  · go_wp2_with fail
                    go_meet
                    exact ⟨Z1, HP.out.perm hU1 HQ.out.1⟩
                  · have HSS : Hid (Sort.SortedIn ltN a' b' Z1) := HQ.out.2 rfl
                    go_wp2_with fail
                    refine bodyPost_ret (results_none rfl _ _ _) rfl ?_
                    exact ⟨rfl, HP.out.done hU1 HQ.out.1 HSS.out⟩
              case rest =>
                clear HP
                obtain ⟨D3, hP4⟩ := hcut
                have HP : Hid (Pd w g o cap n a b d a' b' D3 wc) := hP4
                obtain ⟨G, hG, hcw, hfw⟩ := hP4.us.fam
                have HG : Hid (∀ x, G x = D3[x]!) := hG
                clear hP4 hG
                go_wp2_with fail
                go_cut [87] (fun c wx => c = .bool (decide (0 < a') && !ltN (G (a' - 1)) (G p)) ∧ Pd w g o cap n a b d a' b' D3 wx)
                case first =>
                  by_cases ha0 : 0 < a'
                  · go_quiet ((go_at_call 50; exact Calls.quiet_of_same (uless_walk _ _ _)))
                    go_wp2_with fail
                    go_meet
                    exact ⟨by simp [ha0], HP.out.drew _⟩
                  · go_quiet (fail)
                    go_wp2_with fail
                    go_meet
                    exact ⟨by simp [ha0], HP.out.drew _⟩
                case rest =>
                  clear HP hcw hfw
                  obtain ⟨rfl, hP5⟩ := hcut
                  have HP : Hid (Pd w g o cap n a b d a' b' D3 wc) := hP5
                  clear hP5
                  cases hc : (decide (0 < a') && !ltN (G (a' - 1)) (G p))
                  · clear hc HG
                    go_wp2_with fail
                    refine (upart_walk HP.out.us.row HP.out.us.size hp1 hp2 (by omega) hsz).mono ?_
                    rintro e w2 ⟨mid, ap, rfl, hmid, hU1⟩
                    have hq := HP.out.part hp1 hp2 hU1
                    generalize Sort.partition ltN D3 a' b' p = Z at hmid hU1 hq
                    obtain ⟨Z1, Z2, Z3⟩ := Z
                    dsimp only at hmid hU1 hq
                    subst hmid
                    obtain ⟨q1, q2, q3, q4, q5, q6, q7⟩ := hq
                    have HQ3 : Hid (Us w g o cap n Z3 w2) := q3
                    have HQ4 : Hid (Sort.Below ltN a' mid Z3) := q4
                    have HQ5 : Hid (Sort.Below ltN (mid + 1) b' Z3) := q5
                    have HQ6 : Hid (∀ e w3, Us w2 g o cap n e w3 → Sort.PermIn a' mid Z3 e → Sort.SortedIn ltN a' mid e → Pd w g o cap n a b d (mid + 1) b' e w3) := q6
                    have HQ7 : Hid (∀ e w3, Us w2 g o cap n e w3 → Sort.PermIn (mid + 1) b' Z3 e → Sort.SortedIn ltN (mid + 1) b' e → Pd w g o cap n a b d a' mid e w3) := q7
                    clear q3 q4 q5 q6 q7 hU1 HP
                    by_cases hlr : mid - a' < b' - mid
                    · have hlri : (mid : Int) - (a' : Int) < (b' : Int) - (mid : Int) := by omega
                      have HC : Hid (Calls Try.prog 39 #[.slice (some ⟨g, o, none⟩) n cap, .int .i64 a', .int .i64 mid, .int .i64 lim2] w2 fun e w' => e = .returned (.tuple #[]) ∧ ∃ d', Us w2 g o cap n d' w' ∧ Sort.PermIn a' mid Z3 d' ∧ Sort.SortedIn ltN a' mid d') :=
                        HIH.out (mid - a') (by omega) (Nat.le_refl _) HQ3.out.row HQ3.out.size q1 (by omega) hsz hli2 HQ4.out
                      go_wp2_with fail
                      refine Calls.mono HC.out ?_
                      rintro e w3 ⟨rfl, e1, u1, u2, u3⟩
                      go_wp2_with fail
                      go_roundw
                      case rel => exact ⟨mid + 1, b', lim2, _, ap, e1, by simp, rfl, rfl, rfl, rfl, hli2, HQ6.out e1 _ u1 u2 u3⟩
                      case measure => simp [intOf]; omega
                    · have hlri : ¬ ((mid : Int) - (a' : Int) < (b' : Int) - (mid : Int)) := by omega
                      have HC : Hid (Calls Try.prog 39 #[.slice (some ⟨g, o, none⟩) n cap, .int .i64 ((mid + 1 : Nat) : Int), .int .i64 b', .int .i64 lim2] w2 fun e w' => e = .returned (.tuple #[]) ∧ ∃ d', Us w2 g o cap n d' w' ∧ Sort.PermIn (mid + 1) b' Z3 d' ∧ Sort.SortedIn ltN (mid + 1) b' d') :=
                        HIH.out (b' - (mid + 1)) (by omega) (Nat.le_refl _) HQ3.out.row HQ3.out.size (by omega) (by omega) hsz hli2 HQ5.out
                      go_wp2_with fail
                      refine Calls.mono HC.out ?_
                      rintro e w3 ⟨rfl, e1, u1, u2, u3⟩
                      go_wp2_with fail
                      go_roundw
                      case rel => exact ⟨a', mid, lim2, _, ap, e1, rfl, rfl, rfl, rfl, rfl, hli2, HQ7.out e1 _ u1 u2 u3⟩
                      case measure => simp [intOf]; omega
                  · have ha0 : 0 < a' := by simp at hc; exact hc.1
                    have hl : ltN D3[a' - 1]! D3[p]! = false := by
                      simp only [ha0, decide_true, Bool.true_and, Bool.not_eq_true'] at hc
                      rw [HG.out, HG.out] at hc
                      exact hc
                    clear hc HG
                    have HLL : Hid (ltN D3[a' - 1]! D3[p]! = false) := hl
                    clear hl
                    go_wp2_with fail
                    refine (upeq_walk HP.out.us.row HP.out.us.size hp1 hp2 (by omega) hsz).mono ?_
                    rintro e w2 ⟨mid, rfl, hmid, hU1⟩
                    have hq := HP.out.equal ha0 hp1 hp2 HLL.out hU1
                    rw [← hmid] at hq
                    obtain ⟨q1, q2⟩ := hq
                    have HQ : Hid (Pd w g o cap n a b d mid b' (Sort.partitionEqual ltN D3 a' b' p).2 w2) := q2
                    have hmb := q2.lab
                    clear q2 hmid hU1
                    go_wp2_with fail
                    go_roundw
                    case rel => exact ⟨mid, b', lim2, wb, wp, _, rfl, rfl, rfl, rfl, rfl, hli2, HQ.out⟩
                    case measure => simp [intOf]; omega


theorem usort_walk {w : World} {g o cap n : Nat} {d : Array Nat} (h : Un w g o cap d) (hn : d.size = n) (hsz : n ≤ 2305843009213693951) :
    Calls Try.prog 29 #[.slice (some ⟨g, o, none⟩) n cap] w fun e w' => e = .returned (.tuple #[]) ∧ ∃ d', Us w g o cap n d' w' ∧ Sort.PermIn 0 n d d' ∧ Sort.SortedIn ltN 0 n d' := by
  have HU : Hid (Un w g o cap d) := h
  have HN : Hid (d.size = n) := hn
  have hwn : IntKind.u64.wrap (n : Int) = (n : Int) := by rw [IntKind.wrap_u64]; omega
  clear h hn
  go_enter Try.func29, Try.ntmps29
  go_wp2_with (go_at_call 40; refine (ulen_walk n (by omega) _).mono ?_; rintro e w9 ⟨⟨m, hm, rfl⟩, h9⟩; have h9 := h9.symm; subst h9)
  refine (updq_walk n (a := 0) (by omega) HU.out HN.out (Nat.zero_le _) (Nat.le_refl _) hsz hm (Or.inl rfl)).mono ?_
  rintro e w1 ⟨rfl, hq⟩
  go_wp2_with fail
  go_end0
  exact ⟨rfl, hq⟩
end Go.Proofs.Ytkicnoohfilgjaa


