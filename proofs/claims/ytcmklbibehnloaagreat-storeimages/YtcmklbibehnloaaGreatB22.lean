/- Put that lays and comes to the root's write. -/
import Derived.Test.YtcmklbibehnloaaGreatB21
set_option maxRecDepth 100000
set_option maxHeartbeats 16000000
namespace Go.Proofs.YtcmklbibehnloaaGreat
open Go.RowKit
section
theorem new_rootC {A : Nat → Prop} {w w3 : World} {t : TypeId} (h : Ch A (w.alloc (Obj.cells #[.int .u64 0, .slice none 0 0] t)).drew w3) (hn : ¬ A w.heap.size) : w3.heap[w.heap.size]? = some (.cells #[.int .u64 0, .slice none 0 0] t (0, 0)) := by
 have h0 : (w.alloc (Obj.cells #[.int .u64 0, .slice none 0 0] t)).drew.heap[w.heap.size]? = some (.cells #[.int .u64 0, .slice none 0 0] t (0, 0)) := heap_alloc_new w _;rw [h.block w.heap.size (by simp [World.drew]) hn]; exact h0
theorem Kz.set1 {w1 wx : World} {p pb g i : Nat} (h : Kz w1 p pb wx) (hp : p ≠ g) (hq : pb ≠ g) (a : Value) : Kz w1 p pb (wx.setCell ⟨g, i, none⟩ a) :=
 ⟨by rw [set_other i _ hp]; exact h.k0, by rw [set_other i _ hq]; exact h.k1, by simpa using h.sz⟩
def Lz (A : Nat → Prop) (w1 : World) (pb : Nat) (tv dv : Value) (P : Bo) (S' : Dk) (t : List Nat) (nv hv : Value) (wx : World) : Prop :=
 ∃ A' D' nb g cap, nv = .pointer (some ⟨nb, 0, none⟩) ∧ hv = .int .i64 ((1 - P.home : Nat) : Int) ∧ MP A' D' wx pb tv dv P S' ∧ (∀ x, A' x → A x ∨ w1.heap.size ≤ x) ∧ Ch A w1 wx ∧ Nx wx nb g cap (P.gen + 1) t ∧ ¬ A' nb ∧ ¬ A' g ∧ w1.heap.size ≤ nb ∧ w1.heap.size ≤ g
section

variable {A A' D D' : Nat → Prop} {w w1 w' : World} {v dv tv lv : Value} {P P' : Bo} {S S' : Dk} {pb g cap nb : Nat} {ps : List (Int × List Nat)} {t : List Nat}

theorem lz_behind {w3 : World} (hM : MP A' D' w3 pb tv dv P S') (hA : ∀ x, A' x → A x ∨ w1.heap.size ≤ x) (hC : Ch A w1 w3) (hZ : Zt w3 g cap t) (hg : ¬ A' g) (hg1 : w1.heap.size ≤ g) :
  Lz A w1 pb tv dv P S' t (.pointer (some ⟨w3.heap.size, 0, none⟩)) (.int .i64 ((1 - P.home : Nat) : Int)) (w3.alloc (.cells #[.int .u64 (P.gen + 1 : Nat), .slice (some ⟨g, 0, none⟩) t.length cap] 131)) :=
 ⟨A', D', _, g, cap, rfl, rfl, hM.below (below_alloc _ _), hA, hC.self (Ch.of_below (below_alloc _ _)), nx_behind hZ _, fun e => by have := hM.al _ e; omega, hg, hC.size, hg1⟩
theorem lz_ahead {w3 : World} {a b : Value} (hn : w3.heap[nb]? = some (.cells #[a, b] 131 (0, 0))) (hM : MP A' D' w3 pb tv dv P S') (hA : ∀ x, A' x → A x ∨ w1.heap.size ≤ x) (hC : Ch A w1 w3) (hZ : Zt w3 g cap t) (hg : ¬ A' g) (hg1 : w1.heap.size ≤ g) (hgn : g ≠ nb) (hnA : ¬ A' nb) (hn1 : w1.heap.size ≤ nb) :
  Lz A w1 pb tv dv P S' t (.pointer (some ⟨nb, 0, none⟩)) (.int .i64 ((1 - P.home : Nat) : Int)) ((w3.setCell ⟨nb, 0, none⟩ (.int .u64 (P.gen + 1 : Nat))).setCell ⟨nb, 1, none⟩ (.slice (some ⟨g, 0, none⟩) t.length cap)) :=
 ⟨A', D', nb, g, cap, rfl, rfl, (hM.other hnA _ _).other hnA _ _, hA, ch_new (ch_new hC hn1 _ _) hn1 _ _, nx_ahead hn hZ hgn _, hnA, hg, hn1, hg1⟩
theorem lay_wrS : ∀ (l : List (Int × List Nat)) (tab : List Nat) (b : Nat) (n : List Nat) (S : Dk), (layS tab l b n S).2.wr ≤ S.wr + l.length := by
 intro l
 induction l with
 | nil => intro tab b n S; exact Nat.le_refl _
 | cons a l ih =>
  obtain ⟨p, d⟩ := a;intro tab b n S;unfold layS;rw [List.length_cons]
  split
  ·have := ih tab b (n.set p.toNat 0) S; omega
  ·have hw := write_wr (S := S) (i := (nextF tab b : Nat)) (b := d)
   split
   ·have := ih tab (nextF tab b) (n.set p.toNat (nextF tab b)) (writeS S (nextF tab b : Nat) d); omega
   ·show (writeS S (nextF tab b : Nat) d).wr ≤ _; omega
theorem lay_lenS : ∀ (l : List (Int × List Nat)) (tab : List Nat) (b : Nat) (n : List Nat) (S : Dk), (layS tab l b n S).2.bl.length = S.bl.length := by
 intro l
 induction l with
 | nil => intro tab b n S; rfl
 | cons a l ih =>
  obtain ⟨p, d⟩ := a;intro tab b n S;unfold layS
  split
  ·exact ih tab b (n.set p.toNat 0) S
  ·split
   ·rw [ih tab (nextF tab b) (n.set p.toNat (nextF tab b)) (writeS S (nextF tab b : Nat) d)]; exact write_len
   ·exact write_len
theorem lay_len {tab n : List Nat} {b : Nat} {r : Option (List Nat)} (h : layS tab ps b n S = (r, S')) : S'.bl.length = S.bl.length := by
 have := lay_lenS ps tab b n S;rw [h] at this; exact this
theorem mp_root {w : World} (h : MP A D w pb tv dv P S) (hZ : Zt w g cap t) (hg : ¬ A g) {gen' home' : Nat} (hok : (Bo.mk gen' t home' P.over).ok S.bl.length) :
  MP (fun x => A x ∨ x = g) D (((w.setCell ⟨pb, 0, none⟩ (.int .u64 gen')).setCell ⟨pb, 1, none⟩ (.slice (some ⟨g, 0, none⟩) t.length cap)).setCell ⟨pb, 3, none⟩ (.int .i64 home')) pb (.slice (some ⟨g, 0, none⟩) t.length cap) dv ⟨gen', t, home', P.over⟩ S := by
 have hgp : g ≠ pb := fun e => hg (e ▸ h.ab);have hk : ∀ x, x ≠ pb → (((w.setCell ⟨pb, 0, none⟩ (.int .u64 gen')).setCell ⟨pb, 1, none⟩ (.slice (some ⟨g, 0, none⟩) t.length cap)).setCell ⟨pb, 3, none⟩ (.int .i64 home')).heap[x]? = w.heap[x]? := fun x hx => by rw [set_other 3 _ hx, set_other 1 _ hx, set_other 0 _ hx]
 refine ⟨?_, (hZ.keep (hk g hgp)).tw, h.dsk.keep (fun x hx => hk x (fun e => h.nb (e ▸ hx))) (by simp), fun x hx => .inl (h.sub x hx), .inl h.ab, h.nb, fun x hx => ?_, fun x hx => ?_, hok⟩
 ·rw [set_row (set_row (set_row h.head 0 _) 1 _) 3 _]; rfl
 ·simp [Value.ownBlock] at hx;subst hx;exact ⟨.inr rfl, fun e => hg (h.sub _ e), hgp⟩
 ·have : x < w.heap.size := by
   rcases hx with q | q
   ·exact h.al x q
   ·subst q; exact hZ.lt
  simpa [go_sem] using this
theorem BM.drew {F : Value → Value → Bo → Array Value} {TB TD : TypeId} {w : World} (h : BM F TB TD A D w pb tv dv P S) : BM F TB TD A D w.drew pb tv dv P S := h.below (below_drewN _ _)
theorem lay_wr {tab n : List Nat} {b : Nat} {r : Option (List Nat)} (h : layS tab ps b n S = (r, S')) : S'.wr ≤ S.wr + ps.length := by
 have := lay_wrS ps tab b n S;rw [h] at this; exact this
theorem put_laygood (h : MP A D w pb tv dv P S) (hl : Tx A w lv ps) (hsh : shutB P S = false) (hfa : faultI P.tab.length ps = 0) (hpe : ps ≠ []) (hgen : P.gen ≠ 1099511627776) (hwr : S.wr < 4611686018427387904) (hL : layS P.tab ps 1 P.tab S = (some t, S')) :
  Calls Tryz.prog 41 #[.pointer (some ⟨pb, 0, none⟩), lv] w fun e w' => Pt hdP 135 92 A w (.pointer (some ⟨pb, 0, none⟩)) dv P S ps e w' := by
 have HLY : Hid (layS P.tab ps 1 P.tab S = (some t, S')) := hL;have HLW : Hid (S'.wr ≤ S.wr + ps.length) := lay_wr hL;have HTOK : Hid (Tok t S.bl.length ∧ t.length = P.tab.length) := lay_ok h.ok h.dsk.good.n64 (fault_ok ps [] hfa).1 hL;clear hL;obtain ⟨w0, hw0⟩ : ∃ w0, w0 = (w.alloc (Obj.cells #[.pointer (some ⟨pb, 0, none⟩)] 74)).alloc (Obj.cells #[.int .i64 0] 25) := ⟨_, rfl⟩;have HW0 : Hid (w0 = (w.alloc (Obj.cells #[.pointer (some ⟨pb, 0, none⟩)] 74)).alloc (Obj.cells #[.int .i64 0] 25)) := hw0;obtain ⟨hz, hB0, hs0⟩ := pz_start hw0;have HZ : Hid (Pz w pb w0) := hz;have HB0 := hidH hB0;have HM0 : Hid (MP A D w0 pb tv dv P S) := h.below hB0;have HAL : Hid (∀ x, A x → x < w.heap.size) := h.al;have HL0 : Hid (Tx A w0 lv ps) := hl.below hB0;obtain ⟨lo, lc, rfl, hl1, hl2⟩ := hl.form;have hli : (ps.length : Int) ≤ 9223372036854775807 := by simp only [maxLen] at hl2; omega
 have HSH : Hid (shutB P S = false) := hsh;have HFA : Hid (faultI P.tab.length ps = 0) := hfa;have HLO : Hid (Lok P.tab.length ps) := (fault_ok ps [] hfa).1;have hpl : 0 < ps.length := List.length_pos_iff.2 hpe;have hpb : ((ps.length : Int) == 0) = false := by simp; omega
 have HPE : Hid (ps ≠ []) := hpe;have HG := hidH hgen;have HGL : Hid (P.gen < 1099511627776) := by show _ < _; have := h.ok.g40; omega
 have hgb : ((P.gen : Int) == 1099511627776) = false := by simp; omega
 have HWR := hidH hwr;have HHO : Hid (P.home ≤ 1) := h.ok.h2;have hho : (P.home : Int) ≤ 1 := by have := h.ok.h2; omega
 have r1 : IntKind.i64.wrap (1 - (P.home : Int)) = ((1 - P.home : Nat) : Int) := by have := h.ok.h2; rw [IntKind.wrap_i64]; omega
 have hmf : ∀ (fn : Fn) (first cap : Array Value) (w : World), (Instr.makeFunc fn first cap).run Tryz.prog w = .ok (.func fn first cap) w := fun _ _ _ _ => rfl;clear hw0 hl1 hl2 h hl hz hB0 hfa hpe hgen hwr hsh hpl;go_enter_defers Tryz.func41, Tryz.ntmps41;go_wp2_with fail;rw [← HW0.out];refine (prefuses_ok HM0.out HSH.out).mono ?_;rintro e w9 ⟨rfl, h9⟩;have h9 := h9.symm;subst h9;have k0 := HZ.out.c0;go_wp2_with fail;refine (fault_walk HM0.out HL0.out).mono ?_;rw [HFA.out];rintro e w1 ⟨rfl, hB1⟩;have HB1 := hidH hB1;have HZ1 : Hid (Pz w pb w1) := HZ.out.below hB1;have HM1 := hidH (HM0.out.below hB1);have HL1 := hidH (HL0.out.below hB1);have HBW := hidH (below_trans HB0.out hB1);have HS1 : Hid (w.heap.size + 1 < w1.heap.size) := cell_lt HZ1.out.c1;have k2 := HZ1.out.c0;have k3 := mp0 HM1.out;clear hB1 k0 hs0;go_wp2_with fail;have j0 : ∀ wx, Kz w1 w.heap.size pb wx → wx.cell? ⟨w.heap.size, 0, none⟩ = some (.pointer (some ⟨pb, 0, none⟩)) := fun wx hx => by rw [World.cell?_of_block (w := w1) (a := ⟨w.heap.size, 0, none⟩) hx.k0]; exact HZ1.out.c0
 have j1 : ∀ wx, Kz w1 w.heap.size pb wx → wx.cell? ⟨pb, 3, none⟩ = some (.int .i64 P.home) := fun wx hx => by rw [World.cell?_of_block (w := w1) (a := ⟨pb, 3, none⟩) hx.k1]; exact mp3 HM1.out
 have hSd : Kz w1 w.heap.size pb w1.drew := ⟨rfl, rfl, Nat.le_refl _⟩;have HPL : Hid (pb < w.heap.size) := HAL.out _ HM1.out.ab;clear k2 k3;have HD1 : Hid (w.heap.size < w1.heap.size ∧ pb < w1.heap.size ∧ pb ≠ w1.heap.size ∧ w.heap.size ≠ w1.heap.size) := by have h1 := HS1.out; have h2 := HPL.out; exact ⟨by omega, by omega, by omega, by omega⟩
 have HNA : Hid (¬ A w.heap.size ∧ ¬ A (w.heap.size + 1) ∧ ¬ A w1.heap.size) := by
  have h1 := HS1.out;exact ⟨fun e => by have := HAL.out _ e; omega, fun e => by have := HAL.out _ e; omega, fun e => by have := HAL.out _ e; omega⟩
 go_cut [7, 8] from 9 (fun nv hv wx => Lz A w1 pb tv dv P S' t nv hv wx)
 case first =>
  go_region_held3 (fun wx => Kz w1 w.heap.size pb wx) (first | assumption | exact Kz.go (by assumption) HD1.out.1 HD1.out.2.1 (below_alloc _ _) | exact (Kz.go (wx := w1) ⟨rfl, rfl, Nat.le_refl _⟩ HD1.out.1 HD1.out.2.1 ((below_alloc _ _).drew)) | exact Kz.set (by assumption) HD1.out.2.2.2 HD1.out.2.2.1 _ _)
   (first
    | (go_at_call 91; refine (lay_good (HM1.out.below (by first | exact below_drewN _ _ | exact (below_alloc _ _).drew)) (HL1.out.below (by first | exact below_drewN _ _ | exact (below_alloc _ _).drew)) HLO.out HGL.out HWR.out HLY.out).mono ?_; rintro e w3 ⟨A', D', g, cap, rfl, hM3, hA3, hC3, hZ3, hgA, hg1, htl, hwk⟩; clear htl; have hS3 : Kz w1 w.heap.size pb w3 := kz_lay (by assumption) HM1.out hM3 hC3 HD1.out.1 HNA.out.1; try (have hnb := new_rootC hC3 HNA.out.2.2; obtain ⟨z0, z1, f0, f1⟩ := root_cells hnb)))
  all_goals go_wp2_with fail
  all_goals go_meet
  ·exact lz_behind hM3 hA3 ((Ch.of_below (D := A) (below_drewN w1 1)).self hC3) hZ3 hgA hg1
  ·have hsz : (w1.alloc (Obj.cells #[.int .u64 0, .slice none 0 0] 131)).drew.heap.size = w1.heap.size + 1 := by simp [World.drew]
   rw [hsz] at hg1;exact lz_ahead hnb hM3 (fun x hx => by rcases hA3 x hx with q | q; exact .inl q; rw [hsz] at q; exact .inr (by omega)) ((Ch.of_below (D := A) (below_alloc w1 _).drew).self hC3) hZ3 hgA (by omega) (by omega) (fun e => by rcases hA3 _ e with q | q; exact HNA.out.2.2 q; rw [hsz] at q; omega) (Nat.le_refl _)
 case rest =>
  obtain ⟨A', D', nb, g, cap, rfl, rfl, hM, hA', hC, hN, hnA, hgA, hn1, hg1⟩ := hcut;have HMC := hidH hM;have HA' := hidH hA';have HCC : Hid (Ch A w1 wc) := hC;have HNC := hidH hN;have HNN : Hid (¬ A' nb ∧ ¬ A' g) := ⟨hnA, hgA⟩;have HN1 : Hid (w1.heap.size ≤ nb ∧ w1.heap.size ≤ g) := ⟨hn1, hg1⟩;have HZC : Hid (Pz w pb wc) := HZ1.out.ch hC HNA.out.1 HNA.out.2.1
  have HPA : Hid (¬ A' w.heap.size ∧ ¬ A' (w.heap.size + 1)) := by
   have h1 := HS1.out;exact ⟨fun e => by rcases hA' _ e with q | q; exact HNA.out.1 q; omega, fun e => by rcases hA' _ e with q | q; exact HNA.out.2.1 q; omega⟩
  have HDS : Hid (Dsk 92 D' wc dv S') := hM.dsk;have HSUB : Hid (∀ x, D' x → A' x) := hM.sub
  have HLS : Hid (S'.wr < 9223372036854775807) := by
   show _ < _;have h1 := HWR.out;have h2 := HLW.out;have h3 := lok_len HLO.out;have h4 := HMC.out.ok.n8;omega
  have c0 := HZC.out.c0;have j4 : ∀ wx, Ch D' wc wx → wx.cell? ⟨w.heap.size, 0, none⟩ = some (.pointer (some ⟨pb, 0, none⟩)) := fun wx hx => by rw [World.cell?_of_block (w := wc) (a := ⟨w.heap.size, 0, none⟩) (hx.block _ (cell_lt HZC.out.c0) (fun e => HPA.out.1 (HSUB.out _ e)))]; exact HZC.out.c0
  have j5 : ∀ wx, Ch D' wc wx → wx.cell? ⟨pb, 2, none⟩ = some dv := fun wx hx => by rw [World.cell?_of_block (w := wc) (a := ⟨pb, 2, none⟩) (hx.block _ (HMC.out.al _ HMC.out.ab) HMC.out.nb)]; exact mp2 HMC.out
  have j6 : ∀ wx, Ch D' wc wx → wx.cell? ⟨nb, 0, none⟩ = some (.int .u64 (P.gen + 1 : Nat)) := fun wx hx => by rw [World.cell?_of_block (w := wc) (a := ⟨nb, 0, none⟩) (hx.block _ HNC.out.lt (fun e => HNN.out.1 (HSUB.out _ e)))]; exact HNC.out.c0
  have j7 : ∀ wx, Ch D' wc wx → wx.cell? ⟨nb, 1, none⟩ = some (.slice (some ⟨g, 0, none⟩) t.length cap) := fun wx hx => by rw [World.cell?_of_block (w := wc) (a := ⟨nb, 1, none⟩) (hx.block _ HNC.out.lt (fun e => HNN.out.1 (HSUB.out _ e)))]; exact HNC.out.c1
  have hSc : Ch D' wc wc.drew := Ch.of_below (below_drewN _ _);have HT8 : Hid (t.length ≤ 8) := by show _ ≤ _; rw [HTOK.out.2]; exact HMC.out.ok.n8
  have HB64 : Hid (S.bl.length ≤ 64) := HM1.out.dsk.good.n64;have HT64 : Hid (∀ x ∈ t, x < 64) := fun x hx => by have h1 := tok_lt HTOK.out.1 x hx; have h2 := HB64.out; omega
  have HG64 : Hid (P.gen + 1 < 18446744073709551616) := by show _ < _; have := HGL.out; omega
  have HRL : Hid ((rootB (P.gen + 1) t).length ≤ 1024) := Nat.le_trans (root_short HT8.out) (by omega);have HRB : Hid (∀ c ∈ rootB (P.gen + 1) t, c < 256) := root_bytes HT8.out HG64.out HT64.out;obtain ⟨ho, hho'⟩ : ∃ ho, ho = ((1 - P.home : Nat) : Int) := ⟨_, rfl⟩;have HHD : Hid (ho = ((1 - P.home : Nat) : Int)) := hho';rw [← hho'];clear hM hA' hC hN hnA hgA hn1 hg1 hho' j0 j1 hSd r1 c0;by_cases hwI : writeI S' ((1 - P.home : Nat) : Int) (rootB (P.gen + 1) t) = 0
  ·have HWI : Hid (writeI S' ho (rootB (P.gen + 1) t) = 0) := by show _ = _; rw [HHD.out]; exact hwI
   have HR : Hid (putO P S ps = (0, ⟨P.gen + 1, t, 1 - P.home, P.over⟩, writeS S' ho (rootB (P.gen + 1) t))) := by show _ = _; rw [HHD.out]; exact put_ok HSH.out HFA.out HPE.out HG.out HLY.out hwI
   clear hwI;go_wp2_with fail
   go_region_held3 (fun wx => Ch D' wc wx) (first | assumption)
    (first
     | (go_at_call 87; refine (bytes_walk (HNC.out.row.tw.below (below_drewN _ _)) HT8.out HT64.out HG64.out).mono ?_; rintro e w4 ⟨rv, rfl, hrv, hB4⟩; have hS4 : Ch D' wc w4 := Ch.self (by assumption) (Ch.of_below hB4); have hb4 : Below wc.heap.size wc w4 := below_trans (below_drewN wc 1) hB4)
     | (go_at_call 86; refine (wr_ok (HDS.out.below hb4) ho (own_bv hrv HRB.out) HLS.out HWI.out).mono ?_; rintro e w5 ⟨rfl, ⟨D5, hD5, hx5⟩, hC5⟩; have hS5 : Ch D' wc w5 := Ch.self (by assumption) hC5))
   all_goals
    have HX5 : Hid (∀ x, D5 x → D' x ∨ wc.heap.size ≤ x) := fun x hx => by rcases hx5 x hx with e | e; exact .inl e; exact .inr (Nat.le_trans hb4.size e)
    have HM5 : Hid (MP (fun x => A' x ∨ D5 x) D5 w5 pb tv dv P (writeS S' ho (rootB (P.gen + 1) t))) := HMC.out.redisk hD5 HX5.out hS5 write_len;have HN5 : Hid (Nx w5 nb g cap (P.gen + 1) t) := HNC.out.ch hS5 (fun e => HNN.out.1 (HSUB.out _ e)) (fun e => HNN.out.2 (HSUB.out _ e));have HZ5 : Hid (Pz w pb w5) := HZC.out.ch hS5 (fun e => HPA.out.1 (HSUB.out _ e)) (fun e => HPA.out.2 (HSUB.out _ e));have HC5 : Hid (Ch A w1 w5) := HCC.out.trans hS5 (fun x hx => HA'.out x (HSUB.out _ hx))
    have HA5 : Hid (∀ x, (A' x ∨ D5 x) → A x ∨ w1.heap.size ≤ x) := fun x hx => by
     rcases hx with e | e
     ·exact HA'.out x e
     ·rcases HX5.out x e with q | q
      ·exact HA'.out x (HSUB.out _ q)
      ·exact .inr (Nat.le_trans HCC.out.size q)
    have HN5A : Hid (¬ (A' nb ∨ D5 nb) ∧ ¬ (A' g ∨ D5 g) ∧ ¬ (A' (w.heap.size + 1) ∨ D5 (w.heap.size + 1))) := by
     have h1 := HNC.out.lt;have h2 := HNC.out.row.lt;have h3 := cell_lt HZC.out.c1;simp only at h3;refine ⟨fun e => ?_, fun e => ?_, fun e => ?_⟩
     ·rcases e with e | e
      ·exact HNN.out.1 e
      ·rcases HX5.out _ e with q | q
       ·exact HNN.out.1 (HSUB.out _ q)
       ·omega
     ·rcases e with e | e
      ·exact HNN.out.2 e
      ·rcases HX5.out _ e with q | q
       ·exact HNN.out.2 (HSUB.out _ q)
       ·omega
     ·rcases e with e | e
      ·exact HPA.out.2 e
      ·rcases HX5.out _ e with q | q
       ·exact HPA.out.2 (HSUB.out _ q)
       ·omega
    clear hS5 hC5 hD5 hx5 hrv hB4 hb4 hS4 j4 j5 j6 j7 hSc;have e0 := HZ5.out.c0;have e1 := HN5.out.c0;have e2 := HN5.out.c1;have z0 := mp0 HM5.out;have z1 := mp1 HM5.out;have z3 := mp3 HM5.out;have f0 := HM5.out.soft 0;have f1 := HM5.out.soft 1;have f3 := HM5.out.soft 3;have i0 : ∀ wx, Kz w5 w.heap.size nb wx → wx.cell? ⟨w.heap.size, 0, none⟩ = some (.pointer (some ⟨pb, 0, none⟩)) := fun wx hx => by rw [World.cell?_of_block (w := w5) (a := ⟨w.heap.size, 0, none⟩) hx.k0]; exact HZ5.out.c0
    have i1 : ∀ wx, Kz w5 w.heap.size nb wx → wx.cell? ⟨nb, 0, none⟩ = some (.int .u64 (P.gen + 1 : Nat)) := fun wx hx => by rw [World.cell?_of_block (w := w5) (a := ⟨nb, 0, none⟩) hx.k1]; exact HN5.out.c0
    have i2 : ∀ wx, Kz w5 w.heap.size nb wx → wx.cell? ⟨nb, 1, none⟩ = some (.slice (some ⟨g, 0, none⟩) t.length cap) := fun wx hx => by rw [World.cell?_of_block (w := w5) (a := ⟨nb, 1, none⟩) hx.k1]; exact HN5.out.c1
    have HNE : Hid (w.heap.size ≠ pb ∧ nb ≠ pb) := ⟨by have := HPL.out; omega, by have h1 := HPL.out; have h2 := HN1.out.1; have h3 := HS1.out; omega⟩;have hSe : Kz w5 w.heap.size nb w5.drew := ⟨rfl, rfl, Nat.le_refl _⟩;clear e0 e1 e2;go_wp2_with fail;go_region_held3 (fun wx => Kz w5 w.heap.size nb wx) (first | assumption | exact Kz.set (by assumption) HNE.out.1 HNE.out.2 _ _ | exact Kz.set1 (by assumption) HNE.out.1 HNE.out.2 _) (fail);obtain ⟨w6, hw6⟩ : ∃ w6, w6 = ((w5.setCell ⟨pb, 0, none⟩ (.int .u64 ((P.gen : Int) + 1))).setCell ⟨pb, 1, none⟩ (.slice (some ⟨g, 0, none⟩) t.length cap)).setCell ⟨pb, 3, none⟩ (.int .i64 ho) := ⟨_, rfl⟩;have HBL : Hid ((writeS S' ho (rootB (P.gen + 1) t)).bl.length = S.bl.length) := by show _ = _; rw [write_len]; exact lay_len HLY.out
    have HM6 : Hid (MP (fun x => (A' x ∨ D5 x) ∨ x = g) D5 w6.drew pb (.slice (some ⟨g, 0, none⟩) t.length cap) dv ⟨P.gen + 1, t, 1 - P.home, P.over⟩ (writeS S' ho (rootB (P.gen + 1) t))) := by
     have hok : (Bo.mk (P.gen + 1) t (1 - P.home) P.over).ok (writeS S' ho (rootB (P.gen + 1) t)).bl.length := by
      rw [HBL.out];exact ⟨by show 1 ≤ P.gen + 1; omega, by have := HGL.out; show P.gen + 1 ≤ _; omega, HT8.out, HTOK.out.1, by show 1 - P.home ≤ 1; omega⟩
     have := (mp_root HM5.out HN5.out.row HN5A.out.2.1 hok).drew;have e6 : w6 = ((w5.setCell ⟨pb, 0, none⟩ (.int .u64 ((P.gen + 1 : Nat) : Int))).setCell ⟨pb, 1, none⟩ (.slice (some ⟨g, 0, none⟩) t.length cap)).setCell ⟨pb, 3, none⟩ (.int .i64 ((1 - P.home : Nat) : Int)) := by rw [hw6, HHD.out]; rfl
     rw [e6]; exact this
    have HC6 : Hid (Ch A w w6.drew) := by
     have h1 : Ch A w w5 := (Ch.of_below (D := A) HBW.out).self HC5.out;have hpA : A pb := HM1.out.ab;rw [hw6];exact (((h1.self (Ch.of_grown (grown_set _ pb 0 _) (fun x hx => by cases hx; exact hpA))).self (Ch.of_grown (grown_set _ pb 1 _) (fun x hx => by cases hx; exact hpA))).self (Ch.of_grown (grown_set _ pb 3 _) (fun x hx => by cases hx; exact hpA))).self (Ch.of_below (below_drewN _ _))
    have hz6 : Pz w pb w6.drew := by
     have : Ch (fun x => x = pb) w5 w6.drew := by
      rw [hw6];exact (((Ch.of_grown (grown_set w5 pb 0 _) (fun x hx => by cases hx; rfl)).self (Ch.of_grown (grown_set _ pb 1 _) (fun x hx => by cases hx; rfl))).self (Ch.of_grown (grown_set _ pb 3 _) (fun x hx => by cases hx; rfl))).self (Ch.of_below (below_drewN _ _))
     exact HZ5.out.ch this HNE.out.1 (by have := HPL.out; omega)
    rw [← hw6];have y1 := hz6.c1;have y2 := hz6.f1;obtain ⟨w7, hw7⟩ : ∃ w7, w7 = w6.drew := ⟨_, rfl⟩;rw [← hw7] at HM6 HC6 y1 y2 ⊢;clear hw7 hz6 hw6 z0 z1 z3 f0 f1 f3 i0 i1 i2 hSe;go_wp2_with fail;refine leaves_cons (f := 90) (args := #[.pointer (some ⟨w.heap.size, 0, none⟩), .pointer (some ⟨w.heap.size + 1, 0, none⟩)]) (by simp) (by simp [go_sem]) ?_;refine (pcatch_idle _ _ _).mono ?_;rintro e u' w'' ⟨rfl, rfl, rfl⟩
    exact ⟨.int .i64 0, by simp [results, Tryz.results41, go_sem, y1], pt_mk HR.out (HM6.out.other (fun e => by rcases e with e | e; exact HN5A.out.2.2 e; have h1 := HN1.out.2; have h2 := HS1.out; omega) _ _) (fun x hx => by
     rcases hx with e | e
     ·rcases HA5.out x e with q | q
      ·exact .inl q
      ·exact .inr (Nat.le_trans HBW.out.size q)
     ·subst e; exact .inr (Nat.le_trans HBW.out.size HN1.out.2)) (ch_new HC6.out (by omega) _ _)⟩
  ·have HWI : Hid (writeI S' ho (rootB (P.gen + 1) t) ≠ 0) := by show _ ≠ _; rw [HHD.out]; exact hwI
   have HR : Hid (putO P S ps = (80, endB P, writeS S' ho (rootB (P.gen + 1) t))) := by show _ = _; rw [HHD.out]; exact put_cut HSH.out HFA.out HPE.out HG.out HLY.out hwI
   clear hwI;go_wp2_with fail;refine wp_region_held_drew (S := fun wx => Ch D' wc wx) (by kernel_rfl) ?_ fun hHeld => ?_
   ·exact hSc
   refine wpAnyH_take (i := 0) (oi := ⟨some 40, _, _, _, _, _⟩) (v := ?_) rfl (by kernel_rfl) (by kernel_rfl) (by kernel_rfl) (fun c a w h => q_put (by decide) _ c a w h) (Or.inl ⟨by rfl, ?_⟩) (by assumption) ?_;rotate_left
   ·intro w hSw; (try dsimp only at hSw); go_simp; all_goals (with_reducible rfl)
   try simp only [Act.put, zz]
   refine wpAnyH_take (i := 1) (oi := ⟨some 41, _, _, _, _, _⟩) (v := ?_) rfl (by kernel_rfl) (by kernel_rfl) (by kernel_rfl) (fun c a w h => q_put (by decide) _ c a w h) (Or.inl ⟨by rfl, ?_⟩) (by assumption) ?_;rotate_left
   ·intro w hSw; (try dsimp only at hSw); go_simp; all_goals (with_reducible rfl)
   try simp only [Act.put, zz]
   refine wpAnyH_take (i := 2) (oi := ⟨some 42, _, _, _, _, _⟩) (v := ?_) rfl (by kernel_rfl) (by kernel_rfl) (by kernel_rfl) (fun c a w h => q_put (by decide) _ c a w h) (Or.inl ⟨by rfl, ?_⟩) (by assumption) ?_;rotate_left
   ·intro w hSw; (try dsimp only at hSw); go_simp; all_goals (with_reducible rfl)
   try simp only [Act.put, zz]
   refine wpAnyH_take (i := 3) (oi := ⟨some 43, _, _, _, _, _⟩) (v := ?_) rfl (by kernel_rfl) (by kernel_rfl) (by kernel_rfl) (fun c a w h => q_put (by decide) _ c a w h) (Or.inl ⟨by rfl, ?_⟩) (by assumption) ?_;rotate_left
   ·intro w hSw; (try dsimp only at hSw); go_simp; all_goals (with_reducible rfl)
   try simp only [Act.put, zz]
   refine wpAnyH_take (i := 4) (oi := ⟨some 44, _, _, _, _, _⟩) (v := ?_) rfl (by kernel_rfl) (by kernel_rfl) (by kernel_rfl) (fun c a w h => q_put (by decide) _ c a w h) (Or.inl ⟨by rfl, ?_⟩) (by assumption) ?_;rotate_left
   ·intro w hSw; (try dsimp only at hSw); go_simp; all_goals (with_reducible rfl)
   try simp only [Act.put, zz]
   refine wpAnyH_take (i := 5) (oi := ⟨some 45, _, _, _, _, _⟩) (v := ?_) rfl (by kernel_rfl) (by kernel_rfl) (by kernel_rfl) (fun c a w h => q_put (by decide) _ c a w h) (Or.inl ⟨by rfl, ?_⟩) (by assumption) ?_;rotate_left
   ·intro w hSw; (try dsimp only at hSw); go_simp; all_goals (with_reducible rfl)
   try simp only [Act.put, zz]
   refine rdH 6 46 rfl fun K hK => ?_;go_simp;refine (bytes_walk (HNC.out.row.tw.below (below_drewN _ _)) HT8.out HT64.out HG64.out).mono ?_;rintro e w4 ⟨rv, rfl, hrv, hB4⟩;have hS4 : Ch D' wc w4 := Ch.self hSc (Ch.of_below hB4);have hb4 : Below wc.heap.size wc w4 := below_trans (below_drewN wc 1) hB4;refine hK.out _ _ ?_ fun hHeld => ?_
   ·exact hS4
   clear hK K;try simp only [Act.put, zz]
   refine rdH 7 47 rfl fun K hK => ?_;go_simp;refine (wr_bad (HDS.out.below hb4) ho (own_bv hrv HRB.out) HLS.out HWI.out).mono ?_;rintro e w5 ⟨⟨pu, pv, rfl⟩, ⟨D5, hD5, hx5⟩, hC5⟩;have hS5 : Ch D' wc w5 := Ch.self hS4 hC5;have HX5 : Hid (∀ x, D5 x → D' x ∨ wc.heap.size ≤ x) := fun x hx => by rcases hx5 x hx with e | e; exact .inl e; exact .inr (Nat.le_trans hb4.size e)
   have HM5 : Hid (MP (fun x => A' x ∨ D5 x) D5 w5 pb tv dv P (writeS S' ho (rootB (P.gen + 1) t))) := HMC.out.redisk hD5 HX5.out hS5 write_len;have hz5 : Pz w pb w5 := HZC.out.ch hS5 (fun e => HPA.out.1 (HSUB.out _ e)) (fun e => HPA.out.2 (HSUB.out _ e));have hC5w : Ch A w1 w5 := HCC.out.trans hS5 (fun x hx => HA'.out x (HSUB.out _ hx));refine leaves_cons (f := 90) (args := #[.pointer (some ⟨w.heap.size, 0, none⟩), .pointer (some ⟨w.heap.size + 1, 0, none⟩)]) (by simp) (by simp [go_sem]) ?_;refine (pcatch_panicking pu pv [] w5 hz5.c0 (mp4 HM5.out) (HM5.out.soft 4) hz5.c1 hz5.f1).mono ?_;rintro e u' w'' ⟨rfl, rfl, rfl⟩;refine ⟨.int .i64 80, by simp [results, Tryz.results41, go_sem, hz5.c1], pt_down HR.out HM5.out (fun x hx => ?_) (fun e => ?_) HBW.out hC5w⟩
   ·have h1 := HS1.out;rcases hx with e | e
    ·rcases HA'.out x e with q | q
     ·exact .inl q
     ·exact .inr (by omega)
    ·rcases HX5.out x e with q | q
     ·rcases HA'.out x (HSUB.out _ q) with q | q
      ·exact .inl q
      ·exact .inr (by omega)
     ·have := HCC.out.size; exact .inr (by omega)
   ·have h3 := cell_lt HZC.out.c1;simp only at h3;rcases e with e | e
    ·exact HPA.out.2 e
    ·rcases HX5.out _ e with q | q
     ·exact HPA.out.2 (HSUB.out _ q)
     ·omega
theorem put_walk9 (h : BP A w v dv P S) (hl : Tx A w lv ps) (hwr : S.wr < 4611686018427387904) :
  Calls Tryz.prog 41 #[v, lv] w fun e w' => Pt hdP 135 92 A w v dv P S ps e w' := by
 obtain ⟨D, pb, tv, rfl, h⟩ := h;by_cases hs : shutB P S = true ∨ faultI P.tab.length ps ≠ 0 ∨ ps = [] ∨ P.gen = 1099511627776
 ·exact put_small h hl hs
 ·have h1 : shutB P S = false := by cases e : shutB P S; rfl; exact absurd (.inl e) hs
  have h2 : faultI P.tab.length ps = 0 := Classical.not_not.1 (fun e => hs (.inr (.inl e)));have h3 : ps ≠ [] := fun e => hs (.inr (.inr (.inl e)));have h4 : P.gen ≠ 1099511627776 := fun e => hs (.inr (.inr (.inr e)));obtain ⟨r, S', hL⟩ : ∃ r S', layS P.tab ps 1 P.tab S = (r, S') := ⟨_, _, rfl⟩
  cases r with
  | none => exact put_laybad h hl h1 h2 h3 h4 hwr hL
  | some t => exact put_laygood h hl h1 h2 h3 h4 hwr hL
end
end
end Go.Proofs.YtcmklbibehnloaaGreat
