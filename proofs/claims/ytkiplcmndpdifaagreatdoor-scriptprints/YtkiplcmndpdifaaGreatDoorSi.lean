/- How a step is written: formNamed, formOf. -/
import Derived.Test.YtkiplcmndpdifaaGreatDoorSg

namespace Go.Proofs.YtkiplcmndpdifaaGreatDoor

open Go.RowKit



/-- A form as a value. -/
def FmV (f : Fm) : Value := .agg #[.int .i64 f.K, S f.w, .int .i64 f.g]
def FmZ : Fm := ⟨0, [], 0⟩
def FmA (o : Option Fm) : Value := .tuple #[FmV (o.getD FmZ), .bool o.isSome]


/-- What the search keeps. -/
structure FR (w : World) (p : Fm → Bool) (i : Nat) (wr : World) : Prop where
  bel : Below w.heap.size w wr
  blk : wr.heap[w.heap.size]? = some (.cells #[.int .i64 0, .string ⟨#[]⟩, .int .i64 0] 80 (0, 0))
  no : (formL.take i).all (fun f => !p f) = true


theorem fr_go {w wr w' : World} {p : Fm → Bool} {i j : Nat} (h : FR w p i wr) (hb : Below wr.heap.size wr w') (hn : (formL.take j).all (fun f => !p f) = true) : FR w p j w' :=
  ⟨h.bel.trans (hb.mono h.bel.size), blk_below h.blk hb, hn⟩


theorem fr_step {p : Fm → Bool} {i : Nat} (h : (formL.take i).all (fun f => !p f) = true) (f : Fm) (hf : formL[i]? = some f) (hp : p f = false) : (formL.take (i + 1)).all (fun f => !p f) = true := by
  rw [List.take_add_one, hf]
  simp only [Option.toList_some, List.all_append, h, List.all_cons, List.all_nil, hp]
  rfl


theorem fr_found {p : Fm → Bool} {i : Nat} (h : (formL.take i).all (fun f => !p f) = true) (f : Fm) (hf : formL[i]? = some f) (hp : p f = true) : formL.find? p = some f := by
  obtain ⟨hi, he⟩ := List.getElem?_eq_some_iff.1 hf
  have e : formL = formL.take i ++ f :: formL.drop (i + 1) := by
    rw [← he, ← List.drop_eq_getElem_cons hi, List.take_append_drop]
  rw [e, List.find?_append]
  have hn : (formL.take i).find? p = none := by
    rw [List.find?_eq_none]
    intro x hx
    have := List.all_eq_true.1 h x hx
    simpa using this
  rw [hn]
  simp [hp]


theorem fr_none {p : Fm → Bool} (h : (formL.take 11).all (fun f => !p f) = true) : formL.find? p = none := by
  rw [List.find?_eq_none]
  intro x hx
  have := List.all_eq_true.1 h x (by simpa [formL] using hx)
  simpa using this


set_option maxRecDepth 20000 in
theorem idx_fin (wx : World) : ∀ i : Fin 11, (Instr.index 100 (.agg formC) (.int .i64 (i.val : Int))).run Tryz.prog wx = .ok (FmV (formL[i.val]'i.isLt)) wx := by
  intro i
  rcases i with ⟨i, hi⟩
  have hcs : i = 0 ∨ i = 1 ∨ i = 2 ∨ i = 3 ∨ i = 4 ∨ i = 5 ∨ i = 6 ∨ i = 7 ∨ i = 8 ∨ i = 9 ∨ i = 10 := by omega
  rcases hcs with rfl | rfl | rfl | rfl | rfl | rfl | rfl | rfl | rfl | rfl | rfl <;> rfl


theorem idx_forms {cs : Array Value} {i : Nat} {f : Fm} (hf : formL[i]? = some f) (hc : cs = formC) (wx : World) :
    (Instr.index 100 (.agg cs) (.int .i64 (i : Int))).run Tryz.prog wx = .ok (.agg #[.int .i64 f.K, S f.w, .int .i64 f.g]) wx := by
  obtain ⟨hi, he⟩ := List.getElem?_eq_some_iff.1 hf
  rw [hc, idx_fin wx ⟨i, hi⟩, ← he]
  rfl


set_option maxRecDepth 100000 in
set_option maxHeartbeats 4000000 in
theorem formNamed_walk (v : Bs) (w : World) (ht : Tb w) :
    Calls Tryz.prog 62 #[S v] w fun e w' => e = .returned (FmA (formL.find? (fun f => f.w == v))) ∧ Below w.heap.size w w' := by
  obtain ⟨pr, hpr⟩ : ∃ pr : Fm → Bool, pr = (fun f => f.w == v) := ⟨_, rfl⟩
  rw [← hpr]
  have HP : Hid (pr = (fun f => f.w == v)) := hpr
  obtain ⟨cs, hcs⟩ : ∃ cs, cs = formC := ⟨_, rfl⟩
  have HCS : Hid (cs = formC) := hcs
  obtain ⟨tf, fr, hfm⟩ := (ht.below (below_alloc w (.cells #[.int .i64 0, .string ⟨#[]⟩, .int .i64 0] 80))).fm
  rw [← hcs] at hfm
  have hsi : (Tryz.prog.info? 100).map (·.size) = some cs.size := by rw [hcs]; kernel_rfl
  have HF0 : Hid (FR w pr 0 (w.alloc (.cells #[.int .i64 0, .string ⟨#[]⟩, .int .i64 0] 80))) := ⟨below_alloc _ _, alloc_at rfl, rfl⟩
  obtain ⟨t, htt⟩ : ∃ t : ByteArray, t = ⟨v.toArray⟩ := ⟨_, rfl⟩
  have HT : Hid (t = ⟨v.toArray⟩) := htt
  show Calls _ _ #[.string _] _ _
  rw [← htt]
  clear htt
  have HLD : Hid ((w.alloc (.cells #[.int .i64 0, .string ⟨#[]⟩, .int .i64 0] 80)).heap[1]? = some (.cells cs tf fr)) := hfm
  have HSI : Hid ((Tryz.prog.info? 100).map (·.size) = some cs.size) := hsi
  clear hpr ht hcs hfm hsi
  go_enter Tryz.func62, Tryz.ntmps62
  go_wp2_with (refine wpList_load_row rfl 100 (.global 1) rfl 1 rfl tf cs fr _ HLD.out Tryz.underlying100 rfl HSI.out ?_)
  generalize w.alloc (.cells #[.int .i64 0, .string ⟨#[]⟩, .int .i64 0] 80) = w0 at HF0 ⊢
  go_loopw [7] (fun vi wr => ∃ i : Nat, vi = .int .i64 i ∧ i ≤ 11 ∧ FR w pr i wr) (fun vi _ => 11 - (intOf vi).toNat)
  case atStart => exact ⟨0, rfl, by omega, HF0.out⟩
  case round =>
    obtain ⟨i, rfl, hi, hfr⟩ := hrel
    have HF : Hid (FR w pr i wr) := hfr
    clear hfr HF0 HSI
    have r0 : wr.cell? ⟨w.heap.size, 0, none⟩ = some (.int .i64 0) := by rw [blk_cell HF.out.blk]; rfl
    have r1 : wr.cell? ⟨w.heap.size, 1, none⟩ = some (.string ⟨#[]⟩) := by rw [blk_cell HF.out.blk]; rfl
    have r2 : wr.cell? ⟨w.heap.size, 2, none⟩ = some (.int .i64 0) := by rw [blk_cell HF.out.blk]; rfl
    have f0 : wr.frozen? ⟨w.heap.size, 0, none⟩ = false := blk_soft HF.out.blk 0
    have f1 : wr.frozen? ⟨w.heap.size, 1, none⟩ = false := blk_soft HF.out.blk 1
    have f2 : wr.frozen? ⟨w.heap.size, 2, none⟩ = false := blk_soft HF.out.blk 2
    have hb : w.heap.size < wr.heap.size := blk_lt HF.out.blk
    have hb2 : ¬ w.heap.size = wr.heap.size := by omega
    by_cases hin : i < 11
    · obtain ⟨f, hf⟩ : ∃ f, formL[i]? = some f := ⟨_, List.getElem?_eq_getElem hin⟩
      have hix := fun wx => idx_forms hf HCS.out wx
      obtain ⟨tw, htw⟩ : ∃ tw : ByteArray, tw = ⟨f.w.toArray⟩ := ⟨_, rfl⟩
      simp only [S] at hix
      rw [← htw] at hix
      have HTW : Hid (tw = ⟨f.w.toArray⟩) := htw
      have HFI : Hid (formL[i]? = some f) := hf
      obtain ⟨fK, hfK⟩ : ∃ k, k = f.K := ⟨_, rfl⟩
      obtain ⟨fg, hfg⟩ : ∃ k, k = f.g := ⟨_, rfl⟩
      rw [← hfK, ← hfg] at hix
      have HFK : Hid (fK = f.K ∧ fg = f.g) := ⟨hfK, hfg⟩
      clear htw hf hi hfK hfg
      by_cases hp : pr f = true
      · have HFD : Hid (formL.find? pr = some f) := fr_found HF.out.no _ HFI.out hp
        have hq : (tw.toList == t.toList) = true := by
          rw [HP.out] at hp
          rw [HTW.out, HT.out, ← eq_of_beq hp]
          exact beq_self_eq_true _
        clear hp
        go_wp2_with fail
        (try simp only [Exit.inBlock, Exit.then])
        refine bodyPost_ret (v := .tuple #[.agg #[.int .i64 fK, .string tw, .int .i64 fg], .bool true]) (by rw [results_cell_tmp rfl]; go_simp) rfl ?_
        refine ⟨?_, ?_⟩
        · rw [HFD.out, HTW.out, HFK.out.1, HFK.out.2]; rfl
        · exact (((HF.out.bel.setCell (p := ⟨w.heap.size, 0, none⟩) (Nat.le_refl _) _).setCell (p := ⟨w.heap.size, 1, none⟩) (Nat.le_refl _) _).setCell (p := ⟨w.heap.size, 2, none⟩) (Nat.le_refl _) _).alloc (by simp [go_sem]; omega) _
      · have hpf : pr f = false := by simpa using hp
        have HST : Hid ((formL.take (i + 1)).all (fun f => !pr f) = true) := fr_step HF.out.no _ HFI.out hpf
        have hq : (tw.toList == t.toList) = false := by
          rw [HP.out] at hpf
          rw [HTW.out, HT.out]
          exact bl_ne (str_ne (by simpa using hpf))
        clear hp hpf
        go_wp2_with fail
        go_roundw
        case rel => exact ⟨i + 1, rfl, by omega, fr_go HF.out (below_alloc _ _) HST.out⟩
        case measure => simp [intOf]; omega
    · obtain rfl : i = 11 := by omega
      have HFD : Hid (formL.find? pr = none) := fr_none HF.out.no
      clear hin hi
      go_wp2_with fail
      (try simp only [Exit.inBlock, Exit.then])
      refine bodyPost_ret (v := .tuple #[.agg #[.int .i64 0, .string ⟨#[]⟩, .int .i64 0], .bool false]) (by rw [results_cell_tmp rfl]; go_simp) rfl ?_
      refine ⟨?_, ?_⟩
      · rw [HFD.out]; rfl
      · exact ((HF.out.bel.setCell (p := ⟨w.heap.size, 0, none⟩) (Nat.le_refl _) _).setCell (p := ⟨w.heap.size, 1, none⟩) (Nat.le_refl _) _).setCell (p := ⟨w.heap.size, 2, none⟩) (Nat.le_refl _) _


set_option maxRecDepth 100000 in
set_option maxHeartbeats 4000000 in
theorem formOf_walk (v : Int) (w : World) (ht : Tb w) :
    Calls Tryz.prog 35 #[.int .i64 v] w fun e w' => e = .returned (FmA (formL.find? (fun f => f.K == v))) ∧ Below w.heap.size w w' := by
  obtain ⟨pr, hpr⟩ : ∃ pr : Fm → Bool, pr = (fun f => f.K == v) := ⟨_, rfl⟩
  rw [← hpr]
  have HP : Hid (pr = (fun f => f.K == v)) := hpr
  obtain ⟨cs, hcs⟩ : ∃ cs, cs = formC := ⟨_, rfl⟩
  have HCS : Hid (cs = formC) := hcs
  obtain ⟨tf, fr, hfm⟩ := (ht.below (below_alloc w (.cells #[.int .i64 0, .string ⟨#[]⟩, .int .i64 0] 80))).fm
  rw [← hcs] at hfm
  have hsi : (Tryz.prog.info? 100).map (·.size) = some cs.size := by rw [hcs]; kernel_rfl
  have HF0 : Hid (FR w pr 0 (w.alloc (.cells #[.int .i64 0, .string ⟨#[]⟩, .int .i64 0] 80))) := ⟨below_alloc _ _, alloc_at rfl, rfl⟩
  have HLD : Hid ((w.alloc (.cells #[.int .i64 0, .string ⟨#[]⟩, .int .i64 0] 80)).heap[1]? = some (.cells cs tf fr)) := hfm
  have HSI : Hid ((Tryz.prog.info? 100).map (·.size) = some cs.size) := hsi
  clear hpr ht hcs hfm hsi
  go_enter Tryz.func35, Tryz.ntmps35
  go_wp2_with (refine wpList_load_row rfl 100 (.global 1) rfl 1 rfl tf cs fr _ HLD.out Tryz.underlying100 rfl HSI.out ?_)
  generalize w.alloc (.cells #[.int .i64 0, .string ⟨#[]⟩, .int .i64 0] 80) = w0 at HF0 ⊢
  go_loopw [7] (fun vi wr => ∃ i : Nat, vi = .int .i64 i ∧ i ≤ 11 ∧ FR w pr i wr) (fun vi _ => 11 - (intOf vi).toNat)
  case atStart => exact ⟨0, rfl, by omega, HF0.out⟩
  case round =>
    obtain ⟨i, rfl, hi, hfr⟩ := hrel
    have HF : Hid (FR w pr i wr) := hfr
    clear hfr HF0 HSI
    have r0 : wr.cell? ⟨w.heap.size, 0, none⟩ = some (.int .i64 0) := by rw [blk_cell HF.out.blk]; rfl
    have r1 : wr.cell? ⟨w.heap.size, 1, none⟩ = some (.string ⟨#[]⟩) := by rw [blk_cell HF.out.blk]; rfl
    have r2 : wr.cell? ⟨w.heap.size, 2, none⟩ = some (.int .i64 0) := by rw [blk_cell HF.out.blk]; rfl
    have f0 : wr.frozen? ⟨w.heap.size, 0, none⟩ = false := blk_soft HF.out.blk 0
    have f1 : wr.frozen? ⟨w.heap.size, 1, none⟩ = false := blk_soft HF.out.blk 1
    have f2 : wr.frozen? ⟨w.heap.size, 2, none⟩ = false := blk_soft HF.out.blk 2
    have hb : w.heap.size < wr.heap.size := blk_lt HF.out.blk
    have hb2 : ¬ w.heap.size = wr.heap.size := by omega
    by_cases hin : i < 11
    · obtain ⟨f, hf⟩ : ∃ f, formL[i]? = some f := ⟨_, List.getElem?_eq_getElem hin⟩
      have hix := fun wx => idx_forms hf HCS.out wx
      obtain ⟨tw, htw⟩ : ∃ tw : ByteArray, tw = ⟨f.w.toArray⟩ := ⟨_, rfl⟩
      simp only [S] at hix
      rw [← htw] at hix
      have HTW : Hid (tw = ⟨f.w.toArray⟩) := htw
      have HFI : Hid (formL[i]? = some f) := hf
      obtain ⟨fK, hfK⟩ : ∃ k, k = f.K := ⟨_, rfl⟩
      obtain ⟨fg, hfg⟩ : ∃ k, k = f.g := ⟨_, rfl⟩
      rw [← hfK, ← hfg] at hix
      have HFK : Hid (fK = f.K ∧ fg = f.g) := ⟨hfK, hfg⟩
      clear htw hf hi hfK hfg
      by_cases hp : pr f = true
      · have HFD : Hid (formL.find? pr = some f) := fr_found HF.out.no _ HFI.out hp
        have hq : (fK == v) = true := by
          rw [HP.out] at hp
          rw [HFK.out.1]
          exact hp
        clear hp
        go_wp2_with fail
        (try simp only [Exit.inBlock, Exit.then])
        refine bodyPost_ret (v := .tuple #[.agg #[.int .i64 fK, .string tw, .int .i64 fg], .bool true]) (by rw [results_cell_tmp rfl]; go_simp) rfl ?_
        refine ⟨?_, ?_⟩
        · rw [HFD.out, HTW.out, HFK.out.1, HFK.out.2]; rfl
        · exact (((HF.out.bel.setCell (p := ⟨w.heap.size, 0, none⟩) (Nat.le_refl _) _).setCell (p := ⟨w.heap.size, 1, none⟩) (Nat.le_refl _) _).setCell (p := ⟨w.heap.size, 2, none⟩) (Nat.le_refl _) _).alloc (by simp [go_sem]; omega) _
      · have hpf : pr f = false := by simpa using hp
        have HST : Hid ((formL.take (i + 1)).all (fun f => !pr f) = true) := fr_step HF.out.no _ HFI.out hpf
        have hq : (fK == v) = false := by
          rw [HP.out] at hpf
          rw [HFK.out.1]
          exact hpf
        clear hp hpf
        go_wp2_with fail
        go_roundw
        case rel => exact ⟨i + 1, rfl, by omega, fr_go HF.out (below_alloc _ _) HST.out⟩
        case measure => simp [intOf]; omega
    · obtain rfl : i = 11 := by omega
      have HFD : Hid (formL.find? pr = none) := fr_none HF.out.no
      clear hin hi
      go_wp2_with fail
      (try simp only [Exit.inBlock, Exit.then])
      refine bodyPost_ret (v := .tuple #[.agg #[.int .i64 0, .string ⟨#[]⟩, .int .i64 0], .bool false]) (by rw [results_cell_tmp rfl]; go_simp) rfl ?_
      refine ⟨?_, ?_⟩
      · rw [HFD.out]; rfl
      · exact ((HF.out.bel.setCell (p := ⟨w.heap.size, 0, none⟩) (Nat.le_refl _) _).setCell (p := ⟨w.heap.size, 1, none⟩) (Nat.le_refl _) _).setCell (p := ⟨w.heap.size, 2, none⟩) (Nat.le_refl _) _


end Go.Proofs.YtkiplcmndpdifaaGreatDoor


