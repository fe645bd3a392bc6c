/- DiskMemory's walk. -/
import Derived.Test.YtninkhijnicbjaaDm
namespace Go.Proofs.Ytninkhijnicbjaa
open Go.RowKit

theorem make_bytes {q : Nat} (hq : q ≤ 2000) : ∀ wx : World, (Instr.makeSlice 36 (.int .i64 0) (.int .i64 q)).run Try.prog wx = .ok (.slice (some ⟨wx.heap.size, 0, none⟩) 0 q) (wx.alloc (.cells (madeCells #[.int .u8 0] (q * 1)) 5)) := fun wx => by
  obtain ⟨i0, hi0, hz0, hz1, hz2⟩ := info_partsV info_u8
  have := run_make (P := Try.prog) wx 36 5 i0 (.int .u8 0) Try.underlying36 hi0 hz0 .i64 .i64 0 q (by omega) (by omega) (by rw [hz2]; omega) (by omega)
  rw [hz1] at this
  simp only [Int.toNat_natCast] at this
  exact this
theorem made_own (w : World) {q : Nat} (hq : q ≤ 2000) {Z : Array Value} (hZ : Z = madeCells #[.int .u8 0] (q * 1)) : (w.alloc (.cells Z 5)).ownsRow w.heap.size 5 1 (.slice (some ⟨w.heap.size, 0, none⟩) 0 q) 0 [] :=
  ⟨rfl, .inr ⟨w.heap.size, q, Z, rfl, Nat.le_refl _, heap_alloc_new w _, Nat.zero_le _, by simp [maxLen]; omega, by rw [hZ, size_madeCells], by simp⟩⟩
theorem lit_1234 (w : World) : Sv .u8 (w.alloc (.cells #[.int .u8 1, .int .u8 2, .int .u8 3, .int .u8 4] 5)) (.slice (some ⟨w.heap.size, 0, none⟩) 4 4) (ib [1, 2, 3, 4]) := (lit_bv w [1, 2, 3, 4] _ (0, 0) (by simp [maxLen]) (by simp)).1

/-- What is handed in, in a row with more behind it. -/
theorem cut_first {w : World} {base g q cap : Nat} {b t : List Nat} (h : w.ownsRow base 5 1 (.slice (some ⟨g, 0, none⟩) q cap) q (cb (b ++ t))) (hb : ∀ c ∈ b ++ t, c < 256) : Bv w (.slice (some ⟨g, 0, none⟩) b.length cap) b := by
  have hq : q = (b ++ t).length := by have := h.1; simp [ib] at this; simp; omega
  have := own_bv h hb
  rw [hq] at this
  have := cut_bv this (n := b.length) (by simp)
  rwa [List.take_left] at this
theorem cut_rest {w : World} {base g q cap : Nat} {b t : List Nat} (h : w.ownsRow base 5 1 (.slice (some ⟨g, 0, none⟩) q cap) q (cb (b ++ t))) (hb : ∀ c ∈ b ++ t, c < 256) : Bv w (.slice (some ⟨g, b.length, none⟩) t.length (cap - b.length)) t := by
  have hq : q = (b ++ t).length := by have := h.1; simp [ib] at this; simp; omega
  obtain ⟨⟨ao, cap', e, h1, h2, h3, h4⟩, h5⟩ := own_bv h hb
  simp only [Value.slice.injEq] at e
  obtain ⟨rfl, _, rfl⟩ := e
  rw [ib_len, List.length_append] at h1
  refine ⟨⟨_, cap - b.length, by rw [ib_len], by rw [ib_len]; omega, by omega, by simp, fun i hi => ⟨g, b.length, rfl, ?_⟩⟩, fun c hc => hb c (by simp [hc])⟩
  rw [ib_len] at hi
  obtain ⟨b', off, e, hc⟩ := h4 (b.length + i) (by rw [ib_len, List.length_append]; omega)
  cases e
  rw [Nat.zero_add] at hc
  rw [hc, ib_append]
  simp [List.getD, ib, List.getElem?_append_right]
/-- The disk behind the first write. -/
def mS (b : List Nat) : Dk := putS (loadS (List.replicate 2 [])) 1 b
theorem mw {b : List Nat} (hb : b.length ≤ 1024) : writeI (loadS (List.replicate 2 [])) 1 b = 0 ∧ writeS (loadS (List.replicate 2 [])) 1 b = mS b := write_in (S := loadS (List.replicate 2 [])) (k := 1) rfl (by simp [loadS]) (by simp [loadS]) hb
/-- The disk behind j reads. -/
def mR (b : List Nat) (j : Nat) : Dk := { mS b with rd := j }
theorem mread {b : List Nat} (j : Nat) : refI (mR b j) 1 = 0 ∧ readL (mR b j) 1 = b ∧ readS (mR b j) 1 = mR b (j + 1) := by
  obtain ⟨a, c, d⟩ := read_in (S := mR b j) (k := 1) rfl (by simp [mR, mS, putS, loadS])
  exact ⟨a, c, d⟩
/-- What stays while the disk is written. -/
structure Km (w w4 : World) (gm : Nat) (wx : World) : Prop where
  below : Below w.heap.size w wx
  mine : wx.heap[gm]? = w4.heap[gm]?
theorem Km.bv {w w4 wx : World} {gm : Nat} {u : Value} {b : List Nat} (h : Km w w4 gm wx) (hu : Bv w4 u b) (hg : ∀ x, u.ownBlock = some x → x = gm) : Bv wx u b := hu.keep (fun x hx => by rw [hg x hx]; exact h.mine)

set_option maxRecDepth 100000 in
set_option maxHeartbeats 8000000 in
theorem memory_walk {w : World} {dv iv : Value} {data : List Nat} {ls : List (List Nat)} (hd : Bv w dv data) (hi : Pv w iv ls) (hsz : ls.length * 24 ≤ 140737488355328) (hel : ∀ b ∈ ls, b.length ≤ 140737488355328) :
    Calls Try.prog 7 #[dv, iv] w fun e w' => e = .returned (.bool true) ∧ Below w.heap.size w w' := by
  have HDV : Hid (Bv w dv data) := hd
  have HI : Hid (Pv w iv ls) := hi
  have HSZ : Hid (ls.length * 24 ≤ 140737488355328) := hsz
  have HEL : Hid (∀ b ∈ ls, b.length ≤ 140737488355328) := hel
  obtain ⟨io, ic, rfl, _, _⟩ := hi.form
  have hli : (ls.length : Int) ≤ 9223372036854775807 := by omega
  clear hd hi hsz hel
  go_enter Try.func7, Try.ntmps7
  go_wp2_with fail
  refine (awake_walk w).mono ?_
  rintro e w0 ⟨rfl, hB0⟩
  have HB0 : Hid (Below w.heap.size w w0) := hB0
  clear hB0
  go_wp2_with fail
  refine (laid_walk (HDV.out.below HB0.out)).mono ?_
  rintro e w9 ⟨bo, bc, rfl, hbb, h9⟩
  have h9 := h9.symm
  subst h9
  have HBL : Hid ((data.take 1024).length ≤ 1024) := by show _ ≤ _; simp; omega
  obtain ⟨b, hb⟩ : ∃ b, b = data.take 1024 := ⟨_, rfl⟩
  rw [← hb] at hbb HBL ⊢
  have HBW : Hid (Bv w (.slice bo b.length bc) b) := hbb w HDV.out
  clear hbb hb
  obtain ⟨n, hn⟩ : ∃ n, n = b.length := ⟨_, rfl⟩
  have HN : Hid (n = b.length) := hn
  rw [← hn] at HBL HBW ⊢
  clear hn
  have hn4 : (n : Int) ≤ 1024 := by have := HBL.out; omega
  obtain ⟨q, hq⟩ : ∃ q : Nat, q = n + 4 := ⟨_, rfl⟩
  have hqi : (n : Int) + 4 = (q : Int) := by omega
  have HQ : Hid (q = n + 4) := hq
  have hmk := make_bytes (q := q) (by have := HBL.out; omega)
  obtain ⟨Z, hZ⟩ : ∃ Z, Z = madeCells #[.int .u8 0] (q * 1) := ⟨_, rfl⟩
  rw [← hZ] at hmk
  have HM0 : Hid ((w0.alloc (.cells Z 5)).ownsRow w0.heap.size 5 1 (.slice (some ⟨w0.heap.size, 0, none⟩) 0 q) 0 []) := made_own w0 (by have := HBL.out; omega) hZ
  have HB1 : Hid (Below w.heap.size w (w0.alloc (.cells Z 5))) := below_trans HB0.out (below_alloc _ _)
  have HSV : Hid (Sv .u8 (w0.alloc (.cells Z 5)) (.slice bo n bc) (ib b)) := (HBW.out.below HB1.out).1
  have HL1 : Hid (0 + (ib b).length ≤ 140737488355328) := by rw [ib_len, ← HN.out]; have := HBL.out; show _ ≤ _; omega
  clear hq hZ
  go_wp2_with
    (first
      | (at_builtin; refine wpList_append_sv (by rfl) _ _ 36 (by rfl) w0.heap.size 5 .u8 1 Try.underlying36 info_u8 (.slice (some ⟨w0.heap.size, 0, none⟩) 0 q) 0 [] (by rfl) HM0.out _ (ib b) (by rfl) HSV.out (by have := HL1.out; simp only [maxLen]; omega) (by have := HL1.out; omega) (by simp) ?_; intro v2 w2 ho2 hg2; go_frame; have HB2 : Hid (Below w.heap.size w w2) := HB1.out.trans ((grown_below HM0.out hg2 (by simp)).mono HB0.out.size); rw [Nat.zero_add, ib_len, ← HN.out, List.nil_append] at ho2; obtain ⟨o2, c2, hv2, _, _⟩ := row_form ho2; subst hv2; have HO2 : Hid ((w2.alloc (.cells #[.int .u8 1, .int .u8 2, .int .u8 3, .int .u8 4] 5)).ownsRow w0.heap.size 5 1 (.slice o2 n c2) n (cb b)) := own_below ho2 (below_alloc _ _); have HS2 : Hid (w0.heap.size ≤ w2.heap.size) := Nat.le_trans (by simp) hg2.size; clear ho2 hg2)
      | (at_builtin; refine wpList_append_sv (by rfl) _ _ 36 (by rfl) w0.heap.size 5 .u8 1 Try.underlying36 info_u8 (.slice o2 n c2) n (cb b) (by rfl) HO2.out _ (ib [1, 2, 3, 4]) (by rfl) (lit_1234 w2) (by have := HBL.out; simp only [maxLen, ib_len, List.length_cons, List.length_nil]; omega) (by have := HBL.out; simp only [ib_len, List.length_cons, List.length_nil]; omega) (Nat.le_trans HS2.out (by simp)) ?_; intro v3 w3 ho3 hg3; go_frame; have HB3 : Hid (Below w.heap.size w w3) := (below_trans HB2.out (below_alloc _ _)).trans ((grown_below HO2.out hg3 (Nat.le_trans HS2.out (by simp))).mono HB0.out.size); have HO3 : Hid (w3.ownsRow w0.heap.size 5 1 v3 q (cb (b ++ [1, 2, 3, 4]))) := (by rw [cb, ib_append, List.map_append, HQ.out]; exact ho3); clear ho3 hg3; obtain ⟨gm, cm, hv3, hcm⟩ := (ri_own HO3.out).some (by have := HQ.out; omega); subst hv3))
  refine (new_walk (n := 2) (by omega) (by omega)).mono ?_
  rintro e w4 ⟨v, D4, rfl, hD4, hB4, hx4⟩
  obtain ⟨sb, hv⟩ : ∃ sb, v = .pointer (some ⟨sb, 0, none⟩) := by obtain ⟨sb, _, _, e, _⟩ := hD4; exact ⟨sb, e⟩
  subst hv
  have HD4 : Hid (Dsk 59 D4 w4 (.pointer (some ⟨sb, 0, none⟩)) (loadS (List.replicate 2 []))) := hD4
  have HX4 : Hid (∀ x, D4 x → w.heap.size ≤ x) := fun x hx => Nat.le_trans HB3.out.size (hx4 x hx)
  have HB4 : Hid (Below w.heap.size w w4) := below_trans HB3.out hB4
  have HO4 : Hid (w4.ownsRow w0.heap.size 5 1 (.slice (some ⟨gm, 0, none⟩) q cm) q (cb (b ++ [1, 2, 3, 4]))) := own_below HO3.out hB4
  have HGM : Hid (w.heap.size ≤ gm ∧ gm < w4.heap.size ∧ ¬ D4 gm) := by
    have h1 := HO3.out.lt gm rfl
    exact ⟨Nat.le_trans HB0.out.size h1.1, Nat.lt_of_lt_of_le h1.2 hB4.size, fun e => by have := hx4 gm e; omega⟩
  have HBY : Hid (∀ c ∈ b ++ [1, 2, 3, 4], c < 256) := by
    intro c hc
    rcases List.mem_append.1 hc with h | h
    · exact HBW.out.2 c h
    · simp at h; omega
  have HM1 : Hid (Bv w4 (.slice (some ⟨gm, 0, none⟩) n cm) b) := by rw [HN.out]; exact cut_first HO4.out HBY.out
  have HM2 : Hid (Bv w4 (.slice (some ⟨gm, n, none⟩) 4 (cm - n)) [1, 2, 3, 4]) := by
    have := cut_rest HO4.out HBY.out
    rw [← HN.out] at this; exact this
  clear hD4 hB4 hx4
  have hSd : Km w w4 gm w4.drew := ⟨below_trans HB4.out (below_drewN _ _), rfl⟩
  have s1 : ∀ wx, Km w w4 gm wx → (convert 36 9 (.slice (some ⟨gm, 0, none⟩) n cm)).run Try.prog wx = .ok (.string (str b)) wx := fun wx h => str_of (h.bv HM1.out (fun x hx => by simp [Value.ownBlock] at hx; exact hx.symm))
  have s2 : ∀ wx, Km w w4 gm wx → (convert 36 9 (.slice bo n bc)).run Try.prog wx = .ok (.string (str b)) wx := fun wx h => str_of (HBW.out.below h.below)
  have s3 : ∀ wx, Km w w4 gm wx → (convert 36 9 (.slice (some ⟨gm, n, none⟩) 4 (cm - n))).run Try.prog wx = .ok (.string ⟨#[1, 2, 3, 4]⟩) wx := fun wx h => str_lit (h.bv HM2.out (fun x hx => by simp [Value.ownBlock] at hx; exact hx.symm)) rfl
  have HMW : Hid (writeI (loadS (List.replicate 2 [])) 1 b = 0 ∧ writeS (loadS (List.replicate 2 [])) 1 b = mS b) := mw (by rw [← HN.out]; exact HBL.out)
  have hqc : n + 4 ≤ cm := by have := HQ.out; omega
  have h1 : (n : Int) ≤ (cm : Int) := by omega
  have h2 : (n : Int) ≤ (q : Int) := by omega
  have h3 : ¬ cm = n := by omega
  have h4 : q - n = 4 := by have := HQ.out; omega
  have h5 : n ≤ cm := by omega
  have h6 : n ≤ q := by have := HQ.out; omega
  go_wp2_with fail
  go_region_held3 (fun wx => Km w w4 gm wx) (first | assumption)
    (first
      | (go_at_call 20; refine (write_walk (HD4.out.below (below_drewN _ _)) 1 (HM1.out.below (below_drewN _ _)) (by show (0 : Nat) < _; omega)).mono ?_; rintro e w5 ⟨rfl, ⟨D5, hD5, hx5⟩, hC5⟩; rw [HMW.out.1]; rw [HMW.out.2] at hD5; have hS5 : Km w w4 gm w5 := ⟨(below_trans HB4.out (below_drewN w4 1)).trans (hC5.to_below (B := w.heap.size) HB4.out.size HX4.out), hC5.block gm HGM.out.2.1 HGM.out.2.2⟩))
  have HC5 : Hid (Ch D4 w4 w5) := Ch.trans (Ch.of_below (below_drewN w4 1)) hC5 (fun _ hx => .inl hx)
  have HD5 : Hid (Dsk 59 D5 w5 (.pointer (some ⟨sb, 0, none⟩)) (mS b)) := hD5
  have HX5 : Hid (∀ x, D5 x → w.heap.size ≤ x) := fun x hx => by
    rcases hx5 x hx with h | h
    · exact HX4.out x h
    · exact Nat.le_trans HB4.out.size h
  have HG5 : Hid (¬ D5 gm) := fun e => by
    rcases hx5 gm e with h | h
    · exact HGM.out.2.2 h
    · have := HGM.out.2.1; simp at h; omega
  have HB5 : Hid (Below w.heap.size w w5) := hS5.below
  have HR5 : Hid (Ri w5 (.slice (some ⟨gm, 0, none⟩) q cm) q) := (ri_own HO4.out).keep (fun x hx => by simp [Value.ownBlock] at hx; subst hx; exact hS5.mine)
  have HQN : Hid (n ≤ q) := h6
  clear hD5 hx5 hC5 hS5 s1 s2 s3 hSd h3 h4 h5 h6 hqc hcm
  clear HM0 HB1 HSV HL1 HO2 HB2 HS2 HO3 HB3 HD4 HX4 HO4 HM1 HM2 HMW HC5 HBY
  go_wp2_with fail
  go_loopw [10] (fun iv wr => ∃ k : Nat, k ≤ n ∧ iv = .int .i64 k ∧ Ch (fun x => x = gm) w5 wr ∧ Ri wr (.slice (some ⟨gm, 0, none⟩) q cm) q) (fun iv _ => n - (intOf iv).toNat)
  case atStart => exact ⟨0, Nat.zero_le _, rfl, Ch.refl _ _, HR5.out⟩
  case round =>
    obtain ⟨k, hk, hiv, hC, hR⟩ := hrel
    subst hiv
    by_cases hlt : k < n
    · have hki : (k : Int) < (n : Int) := by omega
      have hkq : (k : Int) < (q : Int) := by omega
      obtain ⟨⟨y, hy⟩, hf⟩ := hR.at (i := k) (by have := HQN.out; omega)
      have HCH : Hid (Ch (fun x => x = gm) w5 wr) := hC
      have HRI : Hid (Ri wr (.slice (some ⟨gm, 0, none⟩) q cm) q) := hR
      clear hC hR
      go_wp2_with fail
      go_roundw
      case rel => exact ⟨k + 1, hlt, by simp, HCH.out.set (.inl rfl) _, HRI.out.set k _⟩
      case measure => simp [intOf]; omega
    · have hki : (n : Int) ≤ (k : Int) := by omega
      have hap : ∀ x, D5 x → ¬ x = gm := fun x hx e => HG5.out (e ▸ hx)
      have HD6 : Hid (Dsk 59 D5 wr (.pointer (some ⟨sb, 0, none⟩)) (mS b)) := HD5.out.ch hC hap
      have HB6 : Hid (Below w.heap.size w wr) := HB5.out.trans (hC.to_below HB5.out.size (fun x hx => by rw [hx]; exact HGM.out.1))
      obtain ⟨w6, hw6⟩ : ∃ w6, w6 = wr := ⟨_, rfl⟩
      subst hw6
      clear hC hR hap HD5 HB5 HR5
      go_wp2_with fail
      refine (read_walk HD6.out 1 (by show (0 : Nat) < _; omega)).mono ?_
      rintro e w7 ⟨r7, rfl, ho7, hD7, hC7⟩
      obtain ⟨ri1, ri2, ri3⟩ := mread (b := b) 0
      have ri1' : refI (mS b) 1 = 0 := ri1
      have ri2' : readL (mS b) 1 = b := ri2
      have ri3' : readS (mS b) 1 = mR b 1 := ri3
      rw [ri1']
      rw [ri2', ← HN.out] at ho7
      rw [ri3'] at hD7
      have HD7 : Hid (Dsk 59 D5 w7 (.pointer (some ⟨sb, 0, none⟩)) (mR b 1)) := hD7
      have HB7 : Hid (Below w.heap.size w w7) := HB6.out.trans (hC7.to_below HB6.out.size HX5.out)
      have HO7 : Hid (w7.ownsRow w6.heap.size 5 1 r7 n (cb b)) := ho7
      have HS67 : Hid (w6.heap.size ≤ w7.heap.size) := hC7.size
      have HL6 : Hid (∀ x, D5 x → x < w6.heap.size) := fun x hx => HD6.out.lt hx
      have HL67 : Hid (∀ x, D5 x → x < w7.heap.size) := fun x hx => Nat.lt_of_lt_of_le (HD6.out.lt hx) hC7.size
      obtain ⟨xo, xc, hxv, _, _⟩ := row_form ho7
      subst hxv
      clear ri1 ri2 ri3 ri1' ri2' ri3' ho7 hD7 hC7
      go_wp2_with fail
      refine (read_walk HD7.out 1 (by show (1 : Nat) < _; omega)).mono ?_
      rintro e w8 ⟨r8, rfl, ho8, hD8, hC8⟩
      obtain ⟨ri1, ri2, ri3⟩ := mread (b := b) 1
      have ri1' : refI (mR b 1) 1 = 0 := ri1
      have ri2' : readL (mR b 1) 1 = b := ri2
      have ri3' : readS (mR b 1) 1 = mR b 2 := ri3
      rw [ri1']
      rw [ri2', ← HN.out] at ho8
      rw [ri3'] at hD8
      have HD8 : Hid (Dsk 59 D5 w8 (.pointer (some ⟨sb, 0, none⟩)) (mR b 2)) := hD8
      have HB8 : Hid (Below w.heap.size w w8) := HB7.out.trans (hC8.to_below HB7.out.size HX5.out)
      have HO8 : Hid (w8.ownsRow w7.heap.size 5 1 r8 n (cb b)) := ho8
      have HO7' : Hid (w8.ownsRow w6.heap.size 5 1 (.slice xo n xc) n (cb b)) := row_keep HO7.out (fun x hx => hC8.block x (HO7.out.lt x hx).2 (fun e => by have h1 := (HO7.out.lt x hx).1; have h2 := HL6.out x e; omega))
      have HS78 : Hid (w7.heap.size ≤ w8.heap.size) := hC8.size
      obtain ⟨yo, yc, hyv, _, _⟩ := row_form ho8
      subst hyv
      clear ri1 ri2 ri3 ri1' ri2' ri3' ho8 hD8 hC8
      go_wp2_with fail
      refine (image_walk HD8.out).mono ?_
      rintro e w9 ⟨gz, cz, rfl, hG9, hgz, hB9⟩
      rw [show (mR b 2).bl.length = 2 from rfl]
      rw [show (mR b 2).bl = [[], b] from rfl] at hG9
      obtain ⟨zv, hzc, hzo, hzb⟩ := hG9.at (i := 1) (by simp)
      rw [show bk [[], b] 1 = b from rfl] at hzo
      have HG9 : Hid (Gr (fun x => w8.heap.size ≤ x) w9 gz cz [[], b]) := hG9
      have HGZ : Hid (w8.heap.size ≤ gz) := hgz
      have HB9 : Hid (Below w.heap.size w w9) := below_trans HB8.out hB9
      have HB89 : Hid (Below w8.heap.size w8 w9) := hB9
      have HD9 : Hid (Dsk 59 D5 w9 (.pointer (some ⟨sb, 0, none⟩)) (mR b 2)) := HD8.out.below hB9
      have HO7z : Hid (w9.ownsRow w6.heap.size 5 1 (.slice xo n xc) n (cb b)) := own_below HO7'.out hB9
      have HO8z : Hid (w9.ownsRow w7.heap.size 5 1 (.slice yo n yc) n (cb b)) := own_below HO8.out hB9
      have HBB : Hid (∀ c ∈ b, c < 256) := HBW.out.2
      unfold Oc at hzo
      rw [← HN.out] at hzo
      obtain ⟨zo, zc, hzv, _, _⟩ := row_form hzo
      subst hzv
      have HZ : Hid (w9.ownsRow 0 5 1 (.slice zo n zc) n (cb b)) := hzo
      have HZB : Hid (∀ x, (Value.slice zo n zc).ownBlock = some x → w8.heap.size ≤ x ∧ x ≠ gz) := hzb
      have HROW : Hid (∃ cur, w9.heap[gz]? = some (.cells cur 36 (0, 0)) ∧ cur[1]? = some (.slice zo n zc)) := by
        obtain ⟨⟨cur, h1, _, _⟩, _⟩ := HG9.out
        exact ⟨cur, h1, by rw [← hzc, cell_of_row w9 gz 1 cur _ (0, 0) h1]⟩
      have j1 : ∀ wx, Below w9.heap.size w9 wx → wx.cell? ⟨gz, 1, none⟩ = some (.slice zo n zc) := fun wx h => by rw [h.cell (p := ⟨gz, 1, none⟩) (cell_lt hzc)]; exact hzc
      have s1 : ∀ wx, Below w9.heap.size w9 wx → (convert 36 9 (.slice xo n xc)).run Try.prog wx = .ok (.string (str b)) wx := fun wx h => str_of (own_bv (own_below HO7z.out h) HBB.out)
      have s2 : ∀ wx, Below w9.heap.size w9 wx → (convert 36 9 (.slice yo n yc)).run Try.prog wx = .ok (.string (str b)) wx := fun wx h => str_of (own_bv (own_below HO8z.out h) HBB.out)
      have s3 : ∀ wx, Below w9.heap.size w9 wx → (convert 36 9 (.slice zo n zc)).run Try.prog wx = .ok (.string (str b)) wx := fun wx h => str_of (own_bv (own_below HZ.out h) HBB.out)
      have s4 : ∀ wx, Below w9.heap.size w9 wx → (convert 36 9 (.slice bo n bc)).run Try.prog wx = .ok (.string (str b)) wx := fun wx h => str_of (HBW.out.below (below_trans HB9.out h))
      have hSd : Below w9.heap.size w9 w9.drew := below_drewN _ _
      clear hG9 hgz hB9 hzc hzo hzb
      go_wp2_with fail
      go_region_held3 (fun wx => Below w9.heap.size w9 wx) (first | assumption) (fail)
      have HSM : Hid (Sm w9.drew (fun g => (Value.slice xo n xc).ownBlock = some g ∨ g = gz ∨ (Value.slice zo n zc).ownBlock = some g) gz (.slice xo n xc) (.slice zo n zc) n n w9.drew) := by
        obtain ⟨cur, h1, h2⟩ := HROW.out
        exact ⟨Ch.refl _ _, (ri_own HO7z.out).below (below_drewN w9 1), (ri_own HZ.out).below (below_drewN w9 1), ⟨cur, h1, h2⟩, fun g hx hz => by have a1 := (HO7.out.lt g hx).2; have a2 := (HZB.out g hz).1; have a3 := HS78.out; omega, fun g hx => .inl (.inl hx), fun g hx => .inl (.inr (.inr hx)), .inr (.inl rfl)⟩
      have HMB : Hid (∀ g, ((Value.slice xo n xc).ownBlock = some g ∨ g = gz ∨ (Value.slice zo n zc).ownBlock = some g) → w6.heap.size ≤ g ∧ (w8.heap.size ≤ g ∨ g < w7.heap.size)) := by
        intro g hg
        have a3 := HS78.out
        rcases hg with h | h | h
        · have := HO7.out.lt g h
          exact ⟨this.1, .inr this.2⟩
        · have := HGZ.out
          exact ⟨by have := HS67.out; omega, .inl (by omega)⟩
        · have := (HZB.out g h).1
          exact ⟨by have := HS67.out; omega, .inl this⟩
      obtain ⟨M, hM⟩ : ∃ M : Nat → Prop, M = fun g => (Value.slice xo n xc).ownBlock = some g ∨ g = gz ∨ (Value.slice zo n zc).ownBlock = some g := ⟨_, rfl⟩
      rw [← hM] at HSM
      have HMB2 : Hid (∀ g, M g → w6.heap.size ≤ g ∧ (w8.heap.size ≤ g ∨ g < w7.heap.size)) := by rw [hM]; exact HMB.out
      clear hM j1 s1 s2 s3 s4 hSd HMB HROW HZ HZB HG9 HGZ HO7z HO7' HO7 HO8z
      go_wp2_with fail
      go_loopw [16] (fun iv wr => ∃ k : Nat, k ≤ n ∧ iv = .int .i64 k ∧ Sm w9.drew M gz (.slice xo n xc) (.slice zo n zc) n n wr) (fun iv _ => n - (intOf iv).toNat)
      case atStart => exact ⟨0, Nat.zero_le _, rfl, HSM.out⟩
      case round =>
        obtain ⟨i, hi, hiv, hS⟩ := hrel
        subst hiv
        by_cases hil : i < n
        · have hii : (i : Int) < (n : Int) := by omega
          obtain ⟨gx, cx, hxv, _⟩ := hS.x.some (by omega)
          obtain ⟨gv, cv, hzv, _⟩ := hS.z.some (by omega)
          simp only [Value.slice.injEq] at hxv hzv
          obtain ⟨e1, _, e2⟩ := hxv
          obtain ⟨e3, _, e4⟩ := hzv
          subst e1
          subst e2
          subst e3
          subst e4
          obtain ⟨⟨a, ha⟩, hfa⟩ := hS.x.at (i := i) hil
          have HS : Hid (Sm w9.drew M gz (.slice (some ⟨gx, 0, none⟩) n xc) (.slice (some ⟨gv, 0, none⟩) n zc) n n wr) := hS
          clear hS
          go_upto_region 24 with fail
          obtain ⟨A, hA⟩ : ∃ A, A = bits BinOp.xor IntKind.u8 a 51 := ⟨_, rfl⟩
          rw [← hA]
          clear hA
          obtain ⟨wy, hwy⟩ : ∃ wy, wy = wr.setCell ⟨gx, i, none⟩ (.int .u8 A) := ⟨_, rfl⟩
          have hSY : Sm w9.drew M gz (.slice (some ⟨gx, 0, none⟩) n xc) (.slice (some ⟨gv, 0, none⟩) n zc) n n wy.drew := by
            rw [hwy]
            exact (HS.out.setX i A).below (below_drewN _ 1)
          rw [← hwy]
          clear hwy ha hfa
          obtain ⟨⟨c, hc⟩, hfc⟩ := hSY.z.at (i := i) hil
          have HSY : Hid (Sm w9.drew M gz (.slice (some ⟨gx, 0, none⟩) n xc) (.slice (some ⟨gv, 0, none⟩) n zc) n n wy.drew) := hSY
          clear hSY
          refine wp_region_noPanic ?_
          refine wp_region_held_drew (S := fun wx => wx.cell? ⟨gz, 1, none⟩ = some (.slice (some ⟨gv, 0, none⟩) n zc)) (by kernel_rfl) ?_ (fun hHeld => ?_)
          · exact HSY.out.cell
          refine wpAnyH_take (i := 0) (oi := ⟨some 138, _, _, _, _, _⟩) (v := ?_) rfl (by kernel_rfl) (by kernel_rfl) (by kernel_rfl) (fun _ _ _ h => h) (Or.inl ⟨by rfl, ?_⟩) (by assumption) ?_
          rotate_left
          · intro w hSw; (try dsimp only at hSw); go_simp; all_goals (with_reducible rfl)
          try simp only [Act.put, List.setIfInBounds_toArray, List.set_cons_zero, List.set_cons_succ]
          refine wpAnyH_take (i := 1) (oi := ⟨some 139, _, _, _, _, _⟩) (v := ?_) rfl (by kernel_rfl) (by kernel_rfl) (by kernel_rfl) (fun _ _ _ h => h) (Or.inl ⟨by rfl, ?_⟩) (by assumption) ?_
          rotate_left
          · intro w hSw; (try dsimp only at hSw); go_simp; all_goals (with_reducible rfl)
          try simp only [Act.put, List.setIfInBounds_toArray, List.set_cons_zero, List.set_cons_succ]
          refine wpAnyH_take (i := 2) (oi := ⟨some 140, _, _, _, _, _⟩) (v := ?_) rfl (by kernel_rfl) (by kernel_rfl) (by kernel_rfl) (fun _ _ _ h => h) (Or.inl ⟨by rfl, ?_⟩) (by assumption) ?_
          rotate_left
          · intro w hSw; (try dsimp only at hSw); go_simp; all_goals (with_reducible rfl)
          try simp only [Act.put, List.setIfInBounds_toArray, List.set_cons_zero, List.set_cons_succ]
          refine wpAnyH_take (i := 3) (oi := ⟨some 141, _, _, _, _, _⟩) (v := ?_) rfl (by kernel_rfl) (by kernel_rfl) (by kernel_rfl) (fun _ _ _ h => h) (Or.inl ⟨by rfl, ?_⟩) (by assumption) ?_
          rotate_left
          · intro w hSw; (try dsimp only at hSw); go_simp; all_goals (with_reducible rfl)
          try simp only [Act.put, List.setIfInBounds_toArray, List.set_cons_zero, List.set_cons_succ]
          refine wpAnyH_take (i := 4) (oi := ⟨some 142, _, _, _, _, _⟩) (v := ?_) rfl (by kernel_rfl) (by kernel_rfl) (by kernel_rfl) (fun _ _ _ h => h) (Or.inl ⟨by rfl, ?_⟩) (by assumption) ?_
          rotate_left
          · intro w hSw; (try dsimp only at hSw); go_simp; all_goals (with_reducible rfl)
          try simp only [Act.put, List.setIfInBounds_toArray, List.set_cons_zero, List.set_cons_succ]
          refine wpAnyH_take (i := 5) (oi := ⟨some 143, _, _, _, _, _⟩) (v := ?_) rfl (by kernel_rfl) (by kernel_rfl) (by kernel_rfl) (fun _ _ _ h => h) (Or.inl ⟨by rfl, ?_⟩) (by assumption) ?_
          rotate_left
          · intro w hSw; (try dsimp only at hSw); go_simp; all_goals (with_reducible rfl)
          try simp only [Act.put, List.setIfInBounds_toArray, List.set_cons_zero, List.set_cons_succ]
          refine wpAnyH_take (i := 6) (oi := ⟨some 144, _, _, _, _, _⟩) (v := ?_) rfl (by kernel_rfl) (by kernel_rfl) (by kernel_rfl) (fun _ _ _ h => h) (Or.inl ⟨by rfl, ?_⟩) (by assumption) ?_
          rotate_left
          · intro w hSw; (try dsimp only at hSw); go_simp; all_goals (with_reducible rfl)
          try simp only [Act.put, List.setIfInBounds_toArray, List.set_cons_zero, List.set_cons_succ]
          refine wpAnyH_take (i := 7) (oi := ⟨some 145, _, _, _, _, _⟩) (v := ?_) rfl (by kernel_rfl) (by kernel_rfl) (by kernel_rfl) (fun _ _ _ h => h) (Or.inl ⟨by rfl, ?_⟩) (by assumption) ?_
          rotate_left
          · intro w hSw; (try dsimp only at hSw); go_simp; all_goals (with_reducible rfl)
          try simp only [Act.put, List.setIfInBounds_toArray, List.set_cons_zero, List.set_cons_succ]
          refine wpAnyH_take (i := 8) (oi := ⟨some 146, _, _, _, _, _⟩) (v := ?_) rfl (by kernel_rfl) (by kernel_rfl) (by kernel_rfl) (fun _ _ _ h => h) (Or.inl ⟨by rfl, ?_⟩) (by assumption) ?_
          rotate_left
          · intro w hSw; (try dsimp only at hSw); go_simp; all_goals (with_reducible rfl)
          try simp only [Act.put, List.setIfInBounds_toArray, List.set_cons_zero, List.set_cons_succ]
          refine wpAnyH_ready (rs := [9]) (by kernel_rfl) (by simp) ?_
          refine AllReadyH.cons (o := ⟨some 147, _, _, _, _, _⟩) rfl (fun K hK => ?_) AllReadyH.nil
          go_simp
          refine hK.out _ _ ?_ (fun hHeld => ?_)
          · exact hHeld
          clear hK K
          try simp only [Act.put, List.setIfInBounds_toArray, List.set_cons_zero, List.set_cons_succ]
          refine wpAnyH_take (i := 10) (oi := ⟨some 148, _, _, _, _, _⟩) (v := ?_) rfl (by kernel_rfl) (by kernel_rfl) (by kernel_rfl) (fun _ _ _ h => h) (Or.inl ⟨by rfl, ?_⟩) (by assumption) ?_
          rotate_left
          · intro w hSw; (try dsimp only at hSw); go_simp; all_goals (with_reducible rfl)
          try simp only [Act.put, List.setIfInBounds_toArray, List.set_cons_zero, List.set_cons_succ]
          refine wpAnyH_take (i := 11) (oi := ⟨some 149, _, _, _, _, _⟩) (v := ?_) rfl (by kernel_rfl) (by kernel_rfl) (by kernel_rfl) (fun _ _ _ h => h) (Or.inl ⟨by rfl, ?_⟩) (by assumption) ?_
          rotate_left
          · intro w hSw; (try dsimp only at hSw); go_simp; all_goals (with_reducible rfl)
          try simp only [Act.put, List.setIfInBounds_toArray, List.set_cons_zero, List.set_cons_succ]
          refine wpAnyH_ready (rs := [12]) (by kernel_rfl) (by simp) ?_
          refine AllReadyH.cons (o := ⟨none, _, _, _, _, _⟩) rfl (fun K hK => ?_) AllReadyH.nil
          go_simp
          refine hK.out _ _ ?_ (fun hHeld => ?_)
          · exact (HSY.out.setZ i _).cell
          clear hK K
          try simp only [Act.put, List.setIfInBounds_toArray, List.set_cons_zero, List.set_cons_succ]
          refine wpAnyH_done (by kernel_rfl) ?_ _
          refine NoPanic.normal ?_
          go_wp2_with fail
          go_roundw
          case rel => exact ⟨i + 1, hil, by simp, HSY.out.setZ i _⟩
          case measure => simp [intOf]; omega
        · have hii : (n : Int) ≤ (i : Int) := by omega
          have HS2 : Hid (Sm w9.drew M gz (.slice xo n xc) (.slice zo n zc) n n wr) := hS
          clear hS HSM
          go_wp2_with fail
          go_loopw [11, 17] (fun xv iv wr => ∃ (k : Nat) (zv : Value), k ≤ 9 ∧ iv = .int .i64 k ∧ Sm w9.drew M gz xv zv (n + k) (n + k) wr) (fun _ iv _ => 9 - (intOf iv).toNat)
          case atStart => exact ⟨0, _, Nat.zero_le _, rfl, HS2.out⟩
          case round =>
            clear HS2
            obtain ⟨j, zv, hj, hjv, hS⟩ := hrel
            subst hjv
            by_cases hj9 : j < 9
            · have hji : (j : Int) < 9 := by omega
              have HS1 : Hid (Sm w9.drew M gz u11 zv (n + j) (n + j) (wr.alloc (.cells #[.int .u8 9] 5))) := hS.below (below_alloc _ _)
              have HLN : Hid (n + j + 1 ≤ 140737488355328) := by have := HBL.out; show _ ≤ _; omega
              have HC1 : Hid ((wr.alloc (.cells #[.int .u8 9] 5)).cell? ⟨wr.heap.size, 0, none⟩ = some (.int .u8 9)) := by show _ = _; simp [go_sem]
              clear hS
              go_wp2_with
                (first
                  | (at_builtin; refine wpList_append_byte (by rfl) _ _ 36 (by rfl) Try.underlying36 info_u8 u11 (n + j) (by rfl) HS1.out.x _ _ (by rfl) HC1.out HLN.out ?_; intro v2 w2 hr2 hg2 ha2; go_frame; obtain ⟨o2, c2, hv2, _, _⟩ := hr2.form; subst hv2; have HSX : Hid (Sm w9.drew M gz (.slice o2 (n + j + 1) c2) zv (n + j + 1) (n + j) w2) := HS1.out.appX hg2 hr2 ha2; have cz2 := HSX.out.cell; have HSX2 : Hid (Sm w9.drew M gz (.slice o2 (n + j + 1) c2) zv (n + j + 1) (n + j) (w2.alloc (.cells #[.int .u8 8] 5))) := HSX.out.below (below_alloc _ _); have HC2 : Hid ((w2.alloc (.cells #[.int .u8 8] 5)).cell? ⟨w2.heap.size, 0, none⟩ = some (.int .u8 8)) := (by show _ = _; simp [go_sem]); clear hr2 hg2 ha2)
                  | (at_builtin; refine wpList_append_byte (by rfl) _ _ 36 (by rfl) Try.underlying36 info_u8 zv (n + j) (by rfl) HSX2.out.z _ _ (by rfl) HC2.out HLN.out ?_; intro v3 w3 hr3 hg3 ha3; go_frame; obtain ⟨o3, c3, hv3, _, _⟩ := hr3.form; subst hv3; obtain ⟨hSZ, ⟨uz, hcz⟩, hfz⟩ := HSX2.out.appZ hg3 hr3 ha3; have HSZ2 : Hid (Sm w9.drew M gz (.slice o2 (n + j + 1) c2) (.slice o3 (n + j + 1) c3) (n + j + 1) (n + j + 1) (w3.setCell ⟨gz, 1, none⟩ (.slice o3 (n + j + 1) c3))) := hSZ; clear hSZ hr3 hg3 ha3))
              go_roundw
              case rel => exact ⟨j + 1, _, hj9, by simp, HSZ2.out⟩
              case measure => simp [intOf]; omega
            · have hji : (9 : Int) ≤ (j : Int) := by omega
              have hjn : ((n + j : Nat) : Int) = (n : Int) + 9 := by omega
              obtain ⟨N, hN⟩ : ∃ N, N = n + j := ⟨_, rfl⟩
              rw [← hN] at hjn hS
              obtain ⟨xo2, xc2, hxv2, _, _⟩ := hS.x.form
              subst hxv2
              have HKP : Hid (Ch M w9.drew wr) := hS.kp
              have HBR : Hid (Below w.heap.size w wr) := (below_trans HB9.out (below_drewN w9 1)).trans (hS.kp.to_below (B := w.heap.size) (by have := HB9.out.size; simp; omega) (fun x hx => Nat.le_trans HB6.out.size (HMB2.out x hx).1))
              have HDR : Hid (Dsk 59 D5 wr (.pointer (some ⟨sb, 0, none⟩)) (mR b 2)) := (HD9.out.below (below_drewN w9 1)).ch hS.kp (fun x hx hm => by have h1 := HL6.out x hx; have h2 := (HMB2.out x hm).1; omega)
              have HYR : Hid (wr.ownsRow w7.heap.size 5 1 (.slice yo n yc) n (cb b)) := row_keep HO8.out (fun x hx => by
                have h1 := HO8.out.lt x hx
                have h3 : w9.heap[x]? = w8.heap[x]? := HB89.out.block x h1.2
                have h4 : x < w9.drew.heap.size := Nat.lt_of_lt_of_le h1.2 HB89.out.size
                have h2 := hS.kp.block x h4 (fun e => by rcases (HMB2.out x e).2 with h | h <;> omega)
                rw [h2]; exact h3)
              clear hN hS HD9 HD6 HD7 HD8 HB6 HB7 HB8 HB9 HMB2 HL6 HKP HO8
              go_wp2_with fail
              refine (read_walk HDR.out 1 (by show (2 : Nat) < _; omega)).mono ?_
              rintro e w10 ⟨r10, rfl, ho10, hD10, hC10⟩
              obtain ⟨ri1, ri2, _⟩ := mread (b := b) 2
              have ri1' : refI (mR b 2) 1 = 0 := ri1
              have ri2' : readL (mR b 2) 1 = b := ri2
              rw [ri1']
              rw [ri2', ← HN.out] at ho10
              have HB10 : Hid (Below w.heap.size w w10) := HBR.out.trans (hC10.to_below HBR.out.size HX5.out)
              have s1 := str_of (own_bv ho10 HBB.out)
              have s2 := str_of (HBW.out.below HB10.out)
              have s3 := str_of (own_bv (row_keep HYR.out (fun x hx => hC10.block x (HYR.out.lt x hx).2 (fun e => by have h1 := (HYR.out.lt x hx).1; have h2 := HL67.out x e; omega))) HBB.out)
              obtain ⟨vo, vc, hvv, _, _⟩ := row_form ho10
              subst hvv
              clear ri1 ri2 ri1' ri2' ho10 hD10 hC10 HBR HDR HYR
              go_wp2_with fail
              clear s1 s2 s3 hjn hji
              go_loopw [20, 21] (fun ov iv wr => ∃ k : Nat, k ≤ ls.length ∧ iv = .int .i64 k ∧ Rr w.heap.size wr ov (ls.take k) ∧ Below w.heap.size w wr) (fun _ iv _ => ls.length - (intOf iv).toNat)
              case atStart => exact ⟨0, Nat.zero_le _, rfl, Rr.nil _ _, HB10.out⟩
              case round =>
                obtain ⟨k, hk, hkv, hR, hB⟩ := hrel
                subst hkv
                by_cases hlt : k < ls.length
                · have hki : (k : Int) < (ls.length : Int) := by omega
                  obtain ⟨ao, cap, e0, q1, q2, q3, q4⟩ := HI.out
                  simp only [Value.slice.injEq] at e0
                  obtain ⟨b0, off0, u, e1, c0, hbv⟩ := q4 k hlt
                  have e2 : io = some ⟨b0, off0, none⟩ := e0.1.trans e1
                  clear e0 q1 q2 q3 q4 e1
                  subst e2
                  obtain ⟨p, hp⟩ : ∃ p, bk ls k = p := ⟨_, rfl⟩
                  have HPL : Hid (p.length ≤ 140737488355328) := by rw [← hp]; exact HEL.out _ (bk_mem hlt)
                  rw [hp] at hbv
                  have HP : Hid (bk ls k = p) := hp
                  have HPW : Hid (Bv (wr.alloc (.cells #[] 5)) u p) := hbv.below (below_trans hB (below_alloc _ _))
                  obtain ⟨uo, uc, rfl, _, _⟩ := bv_form hbv
                  have x0 : (wr.alloc (.cells #[] 5)).cell? ⟨b0, off0 + k, none⟩ = some (.slice uo p.length uc) := by rw [(below_trans hB (below_alloc _ _)).cell (p := ⟨b0, off0 + k, none⟩) (cell_lt c0)]; exact c0
                  have HRR : Hid (Rr w.heap.size wr u20 (ls.take k)) := hR
                  have HB : Hid (Below w.heap.size w wr) := hB
                  have HLT : Hid (((ls.take k).length + 1) * 24 ≤ 140737488355328) := by have := HSZ.out; have : ls.length * 24 ≤ 140737488355328 := this; show _ ≤ _; simp; omega
                  clear hp c0 hbv hR hB
                  go_wp2_with
                    (first
                      | (at_builtin; refine wpList_append_sv (by rfl) _ _ 36 (by rfl) wr.heap.size 5 .u8 1 Try.underlying36 info_u8 _ 0 [] (by rfl) (World.ownsRow_made wr #[] 0 (Nat.le_refl _) (by simp [maxLen]) (by simp)) _ (ib p) (by rfl) HPW.out.1 (by have := HPL.out; rw [ib_len]; simp only [maxLen]; omega) (by have := HPL.out; rw [ib_len]; omega) (by simp) ?_; intro v2 w2 ho2 hg2; go_frame; have HB2 : Hid (Below wr.heap.size wr w2) := (below_alloc wr (Obj.cells #[] 5)).grown hg2 (by simp) (by simp [Value.ownBlock]); rw [Nat.zero_add, ib_len, List.nil_append] at ho2; obtain ⟨o2, c2, hv2, _, _⟩ := row_form ho2; subst hv2; have HO2 : Hid (Oc (w2.alloc (.cells #[.slice o2 p.length c2] 36)) (.slice o2 p.length c2) p) := Oc.below (own_base ho2 (Nat.zero_le _)) (below_alloc _ _); have HOB : Hid (∀ x, (Value.slice o2 p.length c2).ownBlock = some x → w.heap.size ≤ x) := (fun x hx => Nat.le_trans HB.out.size (ho2.lt x hx).1); have HR2 : Hid (Rr w.heap.size (w2.alloc (.cells #[.slice o2 p.length c2] 36)) u20 (ls.take k)) := (HRR.out.below HB2.out).below (below_alloc _ _); have HB3 : Hid (Below w.heap.size w (w2.alloc (.cells #[.slice o2 p.length c2] 36))) := below_trans (below_trans HB.out HB2.out) (below_alloc _ _); have HCL : Hid ((w2.alloc (.cells #[.slice o2 p.length c2] 36)).cell? ⟨w2.heap.size, 0, none⟩ = some (.slice o2 p.length c2)) := (by show _ = _; simp [go_sem]); clear ho2 hg2)
                      | (at_builtin; refine wpList_append_row (by rfl) _ _ 22 (by rfl) w.heap.size Try.underlying22 info_row u20 (ls.take k) (by rfl) HR2.out _ _ p (by rfl) HCL.out HO2.out HOB.out HLT.out HB3.out.size ?_; intro v9 w9' hr9 hg9; go_frame; have HB9' : Hid (Below w.heap.size w w9') := HB3.out.trans (HR2.out.grownB hg9 HB3.out.size (Nat.le_refl _)); have HR9 : Hid (Rr w.heap.size w9' v9 (ls.take (k + 1))) := (by rw [← take_snoc hlt, HP.out]; exact hr9); clear hr9 hg9))
                  go_roundw
                  case rel => exact ⟨k + 1, hlt, by simp, HR9.out, HB9'.out⟩
                  case measure => simp [intOf]; omega
                · have hki : (ls.length : Int) ≤ (k : Int) := by omega
                  have hkk : k = ls.length := by omega
                  rw [hkk, List.take_length] at hR
                  have HRR : Hid (Rr w.heap.size wr u20 ls) := hR
                  have HB : Hid (Below w.heap.size w wr) := hB
                  have HBYT : Hid (∀ b ∈ ls, ∀ c ∈ b, c < 256) := HI.out.bytes
                  clear hR hB hkk
                  go_wp2_with fail
                  by_cases hbad : (ls.length < 1 ∨ 64 < ls.length) ∨ (1 ≤ ls.length ∧ ls.length ≤ 64 ∧ longB ls = true)
                  · have HLB : Hid ((ls.length < 1 ∨ 64 < ls.length) ∨ (1 ≤ ls.length ∧ ls.length ≤ 64 ∧ longB ls = true)) := hbad
                    clear hbad
                    have hld : Calls Try.prog 11 #[u20] wr fun e w' => ∃ c : Int, (c = 1 ∨ c = 6) ∧ e = .returned (.tuple #[.pointer none, .int .i64 c]) ∧ w' = wr := by
                      rcases HLB.out with h | ⟨h1, h2, h3⟩
                      · refine (load_bad (HRR.out.pv HBYT.out) h).mono ?_
                        rintro e w' ⟨rfl, rfl⟩
                        exact ⟨1, .inl rfl, rfl, rfl⟩
                      · refine (load_walk (HRR.out.pv HBYT.out) h1 h2).mono ?_
                        intro e w' h
                        unfold Ld at h
                        rw [if_pos h3] at h
                        obtain ⟨rfl, rfl⟩ := h
                        exact ⟨6, .inr rfl, rfl, rfl⟩
                    refine hld.mono ?_
                    rintro e w' ⟨c, hc, rfl, h9⟩
                    have h9 := h9.symm
                    subst h9
                    clear hld
                    rcases hc with rfl | rfl
                    · go_wp2_with fail
                      go_ret
                      exact ⟨rfl, HB.out⟩
                    · go_wp2_with fail
                      go_ret
                      exact ⟨rfl, HB.out⟩
                  · have HH1 : Hid (1 ≤ ls.length ∧ ls.length ≤ 64 ∧ longB ls = false) := by
                      refine ⟨by omega, by omega, ?_⟩
                      cases h : longB ls
                      · rfl
                      · exact absurd (.inr ⟨by omega, by omega, h⟩) hbad
                    clear hbad
                    refine (load_walk (HRR.out.pv HBYT.out) HH1.out.1 HH1.out.2.1).mono ?_
                    intro e w11 hld
                    unfold Ld at hld
                    rw [if_neg (by rw [HH1.out.2.2]; decide)] at hld
                    obtain ⟨v, D, rfl, hD, hB11, hxD⟩ := hld
                    obtain ⟨lb, hlv⟩ : ∃ lb, v = .pointer (some ⟨lb, 0, none⟩) := by obtain ⟨sb, _, _, e, _⟩ := hD; exact ⟨sb, e⟩
                    subst hlv
                    obtain ⟨go, oc, hov, hge, hgr⟩ := HRR.out.gr HH1.out.1
                    subst hov
                    have HJ : Hid (Jq w (.pointer (some ⟨lb, 0, none⟩)) D go ls w11) := ⟨hD, (hgr.qr.mono (fun x hx hl => ⟨hx, fun e => by have := hxD x e; omega⟩)).below hB11, below_trans HB.out hB11⟩
                    clear hD hB11 hxD hge hgr HRR HB HBYT
                    go_wp2_with fail
                    go_loopw [23] (fun iv wr => ∃ i : Nat, i ≤ ls.length ∧ iv = .int .i64 i ∧ Jq w (.pointer (some ⟨lb, 0, none⟩)) D go ls wr) (fun iv _ => ls.length - (intOf iv).toNat)
                    case atStart => exact ⟨0, Nat.zero_le _, rfl, HJ.out⟩
                    case round =>
                      clear HJ
                      obtain ⟨i, hi, hiv, hJ⟩ := hrel
                      subst hiv
                      have HJ : Hid (Jq w (.pointer (some ⟨lb, 0, none⟩)) D go ls wr) := hJ
                      clear hJ
                      by_cases hil : i < ls.length
                      · have hii : (i : Int) < (ls.length : Int) := by omega
                        obtain ⟨m, hm⟩ : ∃ m, m = (bk ls i).length := ⟨_, rfl⟩
                        have HM : Hid (m = (bk ls i).length) := hm
                        clear hm
                        go_wp2_with fail
                        go_loopw [24] (fun kv wr => ∃ t : Nat, t ≤ m ∧ kv = .int .i64 t ∧ Jq w (.pointer (some ⟨lb, 0, none⟩)) D go ls wr) (fun kv _ => m - (intOf kv).toNat)
                        case atStart => exact ⟨0, Nat.zero_le _, rfl, HJ.out⟩
                        case round =>
                          clear HJ
                          obtain ⟨t, ht, htv, hJ⟩ := hrel
                          subst htv
                          obtain ⟨u, hu, hru, hub⟩ := hJ.rows.at hil
                          rw [← HM.out] at hru
                          have HJ : Hid (Jq w (.pointer (some ⟨lb, 0, none⟩)) D go ls wr) := hJ
                          have HRU : Hid (Ri wr u m) := hru
                          have HUB : Hid (∀ x, u.ownBlock = some x → (w.heap.size ≤ x ∧ ¬ D x) ∧ x ≠ go) := hub
                          obtain ⟨uo, uc, huv, _, hum⟩ := hru.form
                          subst huv
                          have hmi : (m : Int) ≤ 9223372036854775807 := by simp only [maxLen] at hum; omega
                          clear hJ hru hub hum
                          by_cases htm : t < m
                          · have hti : (t : Int) < (m : Int) := by omega
                            obtain ⟨gu, cu, hgu, _⟩ := HRU.out.some (by omega)
                            simp only [Value.slice.injEq] at hgu
                            obtain ⟨e1, _, e2⟩ := hgu
                            subst e1
                            subst e2
                            obtain ⟨⟨c, hc⟩, hfc⟩ := HRU.out.at (i := t) htm
                            have hcd : wr.drew.cell? ⟨gu, t, none⟩ = some (.int .u8 c) := hc
                            have hfd : wr.drew.frozen? ⟨gu, t, none⟩ = false := hfc
                            have hud : wr.drew.cell? ⟨go, i, none⟩ = some (.slice (some ⟨gu, 0, none⟩) m uc) := hu
                            have HJD : Hid (Jq w (.pointer (some ⟨lb, 0, none⟩)) D go ls wr.drew) := HJ.out.go (below_drewN _ _)
                            have HGU : Hid ((w.heap.size ≤ gu ∧ ¬ D gu) ∧ gu ≠ go) := HUB.out gu rfl
                            go_upto_region 47 with fail
                            clear hc hfc
                            refine wp_region_noPanic ?_
                            refine wp_region_held_drew (S := fun wx => wx.cell? ⟨go, i, none⟩ = some (.slice (some ⟨gu, 0, none⟩) m uc)) (by kernel_rfl) ?_ (fun hHeld => ?_)
                            · exact hud
                            refine wpAnyH_take (i := 0) (oi := ⟨some 225, _, _, _, _, _⟩) (v := ?_) rfl (by kernel_rfl) (by kernel_rfl) (by kernel_rfl) (fun _ _ _ h => h) (Or.inl ⟨by rfl, ?_⟩) (by assumption) ?_
                            rotate_left
                            · intro w hSw; (try dsimp only at hSw); go_simp; all_goals (with_reducible rfl)
                            try simp only [Act.put, List.setIfInBounds_toArray, List.set_cons_zero, List.set_cons_succ]
                            refine wpAnyH_take (i := 1) (oi := ⟨some 226, _, _, _, _, _⟩) (v := ?_) rfl (by kernel_rfl) (by kernel_rfl) (by kernel_rfl) (fun _ _ _ h => h) (Or.inl ⟨by rfl, ?_⟩) (by assumption) ?_
                            rotate_left
                            · intro w hSw; (try dsimp only at hSw); go_simp; all_goals (with_reducible rfl)
                            try simp only [Act.put, List.setIfInBounds_toArray, List.set_cons_zero, List.set_cons_succ]
                            refine wpAnyH_take (i := 2) (oi := ⟨some 227, _, _, _, _, _⟩) (v := ?_) rfl (by kernel_rfl) (by kernel_rfl) (by kernel_rfl) (fun _ _ _ h => h) (Or.inl ⟨by rfl, ?_⟩) (by assumption) ?_
                            rotate_left
                            · intro w hSw; (try dsimp only at hSw); go_simp; all_goals (with_reducible rfl)
                            try simp only [Act.put, List.setIfInBounds_toArray, List.set_cons_zero, List.set_cons_succ]
                            refine wpAnyH_take (i := 3) (oi := ⟨some 228, _, _, _, _, _⟩) (v := ?_) rfl (by kernel_rfl) (by kernel_rfl) (by kernel_rfl) (fun _ _ _ h => h) (Or.inl ⟨by rfl, ?_⟩) (by assumption) ?_
                            rotate_left
                            · intro w hSw; (try dsimp only at hSw); go_simp; all_goals (with_reducible rfl)
                            try simp only [Act.put, List.setIfInBounds_toArray, List.set_cons_zero, List.set_cons_succ]
                            refine wpAnyH_take (i := 4) (oi := ⟨some 229, _, _, _, _, _⟩) (v := ?_) rfl (by kernel_rfl) (by kernel_rfl) (by kernel_rfl) (fun _ _ _ h => h) (Or.inl ⟨by rfl, ?_⟩) (by assumption) ?_
                            rotate_left
                            · intro w hSw; (try dsimp only at hSw); go_simp; all_goals (with_reducible rfl)
                            try simp only [Act.put, List.setIfInBounds_toArray, List.set_cons_zero, List.set_cons_succ]
                            refine wpAnyH_take (i := 5) (oi := ⟨some 230, _, _, _, _, _⟩) (v := ?_) rfl (by kernel_rfl) (by kernel_rfl) (by kernel_rfl) (fun _ _ _ h => h) (Or.inl ⟨by rfl, ?_⟩) (by assumption) ?_
                            rotate_left
                            · intro w hSw; (try dsimp only at hSw); go_simp; all_goals (with_reducible rfl)
                            try simp only [Act.put, List.setIfInBounds_toArray, List.set_cons_zero, List.set_cons_succ]
                            refine wpAnyH_take (i := 6) (oi := ⟨some 231, _, _, _, _, _⟩) (v := ?_) rfl (by kernel_rfl) (by kernel_rfl) (by kernel_rfl) (fun _ _ _ h => h) (Or.inl ⟨by rfl, ?_⟩) (by assumption) ?_
                            rotate_left
                            · intro w hSw; (try dsimp only at hSw); go_simp; all_goals (with_reducible rfl)
                            try simp only [Act.put, List.setIfInBounds_toArray, List.set_cons_zero, List.set_cons_succ]
                            refine wpAnyH_take (i := 7) (oi := ⟨some 232, _, _, _, _, _⟩) (v := ?_) rfl (by kernel_rfl) (by kernel_rfl) (by kernel_rfl) (fun _ _ _ h => h) (Or.inl ⟨by rfl, ?_⟩) (by assumption) ?_
                            rotate_left
                            · intro w hSw; (try dsimp only at hSw); go_simp; all_goals (with_reducible rfl)
                            try simp only [Act.put, List.setIfInBounds_toArray, List.set_cons_zero, List.set_cons_succ]
                            refine wpAnyH_take (i := 8) (oi := ⟨some 233, _, _, _, _, _⟩) (v := ?_) rfl (by kernel_rfl) (by kernel_rfl) (by kernel_rfl) (fun _ _ _ h => h) (Or.inl ⟨by rfl, ?_⟩) (by assumption) ?_
                            rotate_left
                            · intro w hSw; (try dsimp only at hSw); go_simp; all_goals (with_reducible rfl)
                            try simp only [Act.put, List.setIfInBounds_toArray, List.set_cons_zero, List.set_cons_succ]
                            refine wpAnyH_take (i := 9) (oi := ⟨some 234, _, _, _, _, _⟩) (v := ?_) rfl (by kernel_rfl) (by kernel_rfl) (by kernel_rfl) (fun _ _ _ h => h) (Or.inl ⟨by rfl, ?_⟩) (by assumption) ?_
                            rotate_left
                            · intro w hSw; (try dsimp only at hSw); go_simp; all_goals (with_reducible rfl)
                            try simp only [Act.put, List.setIfInBounds_toArray, List.set_cons_zero, List.set_cons_succ]
                            refine wpAnyH_take (i := 10) (oi := ⟨some 235, _, _, _, _, _⟩) (v := ?_) rfl (by kernel_rfl) (by kernel_rfl) (by kernel_rfl) (fun _ _ _ h => h) (Or.inl ⟨by rfl, ?_⟩) (by assumption) ?_
                            rotate_left
                            · intro w hSw; (try dsimp only at hSw); go_simp; all_goals (with_reducible rfl)
                            try simp only [Act.put, List.setIfInBounds_toArray, List.set_cons_zero, List.set_cons_succ]
                            refine wpAnyH_ready (rs := [11]) (by kernel_rfl) (by simp) ?_
                            refine AllReadyH.cons (o := ⟨some 236, _, _, _, _, _⟩) rfl (fun K hK => ?_) AllReadyH.nil
                            go_simp
                            refine hK.out _ _ ?_ (fun hHeld => ?_)
                            · exact hHeld
                            clear hK K
                            try simp only [Act.put, List.setIfInBounds_toArray, List.set_cons_zero, List.set_cons_succ]
                            refine wpAnyH_take (i := 12) (oi := ⟨some 237, _, _, _, _, _⟩) (v := ?_) rfl (by kernel_rfl) (by kernel_rfl) (by kernel_rfl) (fun _ _ _ h => h) (Or.inl ⟨by rfl, ?_⟩) (by assumption) ?_
                            rotate_left
                            · intro w hSw; (try dsimp only at hSw); go_simp; all_goals (with_reducible rfl)
                            try simp only [Act.put, List.setIfInBounds_toArray, List.set_cons_zero, List.set_cons_succ]
                            refine wpAnyH_take (i := 13) (oi := ⟨some 238, _, _, _, _, _⟩) (v := ?_) rfl (by kernel_rfl) (by kernel_rfl) (by kernel_rfl) (fun _ _ _ h => h) (Or.inl ⟨by rfl, ?_⟩) (by assumption) ?_
                            rotate_left
                            · intro w hSw; (try dsimp only at hSw); go_simp; all_goals (with_reducible rfl)
                            try simp only [Act.put, List.setIfInBounds_toArray, List.set_cons_zero, List.set_cons_succ]
                            refine wpAnyH_ready (rs := [14]) (by kernel_rfl) (by simp) ?_
                            refine AllReadyH.cons (o := ⟨none, _, _, _, _, _⟩) rfl (fun K hK => ?_) AllReadyH.nil
                            go_simp
                            refine hK.out _ _ ?_ (fun hHeld => ?_)
                            · exact (by have h9 : (wr.drew.setCell ⟨gu, t, none⟩ (.int .u8 (bits BinOp.xor IntKind.u8 c 17))).cell? ⟨go, i, none⟩ = some (.slice (some ⟨gu, 0, none⟩) m uc) := (by rw [World.cell?_of_block (w := wr.drew) (a := ⟨go, i, none⟩) (set_other t _ (fun e => HGU.out.2 e.symm))]; exact hud); exact h9)
                            clear hK K
                            try simp only [Act.put, List.setIfInBounds_toArray, List.set_cons_zero, List.set_cons_succ]
                            refine wpAnyH_done (by kernel_rfl) ?_ _
                            refine NoPanic.normal ?_
                            go_wp2_with fail
                            go_roundw
                            case rel => exact ⟨t + 1, htm, by simp, HJD.out.set HGU.out.1 HGU.out.2 _⟩
                            case measure => simp [intOf]; omega
                          · have hti : (m : Int) ≤ (t : Int) := by omega
                            go_wp2_with fail
                            go_roundw
                            case rel => exact ⟨i + 1, hil, by simp, HJ.out⟩
                            case measure => simp [intOf]; omega
                      · have hii : (ls.length : Int) ≤ (i : Int) := by omega
                        go_wp2_with fail
                        refine (image_walk HJ.out.disk).mono ?_
                        rintro e w12 ⟨g12, c12, rfl, hG12, _, hB12⟩
                        have HP1 : Hid (Pv w12 (.slice (some ⟨g12, 0, none⟩) ls.length c12) ls) := hG12.pv HJ.out.disk.good.byt
                        have HB12 : Hid (Below w.heap.size w w12) := below_trans HJ.out.below hB12
                        clear hG12 hB12
                        rw [show (loadS ls).bl.length = ls.length from rfl]
                        go_wp2_with fail
                        refine (images_walk HP1.out (HI.out.below HB12.out)).mono ?_
                        rintro e w13 ⟨rfl, hB13⟩
                        rw [decide_eq_true rfl]
                        go_wp2_with fail
                        go_ret
                        exact ⟨rfl, below_trans HB12.out hB13⟩
end Go.Proofs.Ytninkhijnicbjaa
