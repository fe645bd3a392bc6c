/- MsgMemory: what the message's lists weigh. -/
import Derived.Test.YtonnlhehbhiiiaaJz

import Derived.SizedLaws

namespace Go.Proofs.Ytonnlhehbhiiiaa

open Go.RowKit



theorem size_msg_e {H : Type} {d d0 d1 d2 d3 d4 d5 d6 d7 d8 : DataW H} {ts : List TypeId} {ds : List (DataW H)} {l : List Int} (h : (DataW.weightsEach Try.prog (35 :: ts) (d :: ds)).all (· ≤ reachBytes) = true) (hd : d = .agg [d0, d1, d2, d3, d4, d5, d6, d7, d8]) (h2 : Szd d6 l) :
    l.length * 8 ≤ 140737488351232 := by
  subst hd
  rcases h2 with ⟨_, rfl⟩ | ⟨el, sp, rfl, he⟩
  · simp
  · have hm : (el.length + sp.length) * Try.prog.bytesOf 3 ∈ DataW.weightsEach Try.prog (35 :: ts) (DataW.agg [d0, d1, d2, d3, d4, d5, .slice el sp, d7, d8] :: ds) := by
      simp [DataW.weightsEach, DataW.weights, Try.underlying35, Try.underlying31]
    have hs := of_decide_eq_true (List.all_eq_true.1 h _ hm)
    rw [show Try.prog.bytesOf 3 = 8 by kernel_rfl] at hs
    simp only [reachBytes] at hs
    omega
theorem size_msg_q {H : Type} {d d0 d1 d2 d3 d4 d5 d6 d7 d8 : DataW H} {ts : List TypeId} {ds : List (DataW H)} {l : List Nat} (h : (DataW.weightsEach Try.prog (35 :: ts) (d :: ds)).all (· ≤ reachBytes) = true) (hd : d = .agg [d0, d1, d2, d3, d4, d5, d6, d7, d8]) (h2 : Szd d7 l) :
    l.length * 8 ≤ 140737488351232 := by
  subst hd
  rcases h2 with ⟨_, rfl⟩ | ⟨el, sp, rfl, he⟩
  · simp
  · have hm : (el.length + sp.length) * Try.prog.bytesOf 56 ∈ DataW.weightsEach Try.prog (35 :: ts) (DataW.agg [d0, d1, d2, d3, d4, d5, d6, .slice el sp, d8] :: ds) := by
      simp [DataW.weightsEach, DataW.weights, Try.underlying35, Try.underlying32]
    have hs := of_decide_eq_true (List.all_eq_true.1 h _ hm)
    rw [show Try.prog.bytesOf 56 = 8 by kernel_rfl] at hs
    simp only [reachBytes] at hs
    omega
theorem size_msg_p {H : Type} {d d0 d1 d2 d3 d4 d5 d6 d7 d8 : DataW H} {ts : List TypeId} {ds : List (DataW H)} {l : List Pr} (h : (DataW.weightsEach Try.prog (35 :: ts) (d :: ds)).all (· ≤ reachBytes) = true) (hd : d = .agg [d0, d1, d2, d3, d4, d5, d6, d7, d8]) (h2 : Szd d8 l) :
    l.length * 24 ≤ 140737488351232 := by
  subst hd
  rcases h2 with ⟨_, rfl⟩ | ⟨el, sp, rfl, he⟩
  · simp
  · have hm : (el.length + sp.length) * Try.prog.bytesOf 60 ∈ DataW.weightsEach Try.prog (35 :: ts) (DataW.agg [d0, d1, d2, d3, d4, d5, d6, d7, .slice el sp] :: ds) := by
      simp [DataW.weightsEach, DataW.weights, Try.underlying35, Try.underlying33]
    have hs := of_decide_eq_true (List.all_eq_true.1 h _ hm)
    rw [show Try.prog.bytesOf 60 = 24 by kernel_rfl] at hs
    simp only [reachBytes] at hs
    omega
end Go.Proofs.Ytonnlhehbhiiiaa


