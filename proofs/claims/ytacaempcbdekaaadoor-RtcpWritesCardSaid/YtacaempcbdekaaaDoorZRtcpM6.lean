/- What the document's answer for layer 11 tells of which packets may be: all kinds. No statement is proved here. -/
import Derived.Test.YtacaempcbdekaaaDoorZRtcpM2
import Derived.Test.YtacaempcbdekaaaDoorZRtcpM3
import Derived.Test.YtacaempcbdekaaaDoorZRtcpM4
import Derived.Test.YtacaempcbdekaaaDoorZRtcpM5
namespace Go.Proofs.YtacaempcbdekaaaDoor
open Go.RowKit
set_option linter.unusedVariables false

theorem rmay_200 (cs : List Value) (c : Ctl) (w : World) (h : CtRd w cs c) (hk : c.k = 200) (hf : c.fit) (bb : Bool) (hbb : bb = true ↔ mayC c) :
    Calls Tryd.prog 20 #[.agg cs.toArray] w fun r w' => r = .returned (.bool bb) ∧ Below w.heap.size w w' := by
  rw [mayC_200 c hk] at hbb
  by_cases hn : c.reps.length ≤ 16
  case neg => obtain rfl := bool_no hbb (fun h => hn h.2.1); exact may_200_big cs c w h hk (by omega)
  by_cases hd : c = mkSR 200 c.so c.ti c.st c.pa c.oc c.reps
  case neg => obtain rfl := bool_no hbb (fun h => hd h.1); exact may_200_diff cs c w h hk hd hn
  have hb2 : bb = true ↔ ∀ x ∈ c.reps, x.ok := by rw [hbb]; exact ⟨fun h => h.2.2, fun h => ⟨hd, hn, h⟩⟩
  rw [hd] at h
  exact may_200_yes cs c.so c.ti c.st c.pa c.oc c.reps c.reps.length w h rfl hn bb hb2
theorem rmay_201 (cs : List Value) (c : Ctl) (w : World) (h : CtRd w cs c) (hk : c.k = 201) (hf : c.fit) (bb : Bool) (hbb : bb = true ↔ mayC c) :
    Calls Tryd.prog 20 #[.agg cs.toArray] w fun r w' => r = .returned (.bool bb) ∧ Below w.heap.size w w' := by
  rw [mayC_201 c hk] at hbb
  by_cases hn : c.reps.length ≤ 16
  case neg => obtain rfl := bool_no hbb (fun h => hn h.2.1); exact may_201_big cs c w h hk (by omega)
  by_cases hd : c = mkRR 201 c.so c.reps
  case neg => obtain rfl := bool_no hbb (fun h => hd h.1); exact may_201_diff cs c w h hk hd hn
  have hb2 : bb = true ↔ ∀ x ∈ c.reps, x.ok := by rw [hbb]; exact ⟨fun h => h.2.2, fun h => ⟨hd, hn, h⟩⟩
  rw [hd] at h
  exact may_201_yes cs c.so c.reps c.reps.length w h rfl hn bb hb2
theorem rmay_202 (cs : List Value) (c : Ctl) (w : World) (h : CtRd w cs c) (hk : c.k = 202) (hf : c.fit) (bb : Bool) (hbb : bb = true ↔ mayC c) :
    Calls Tryd.prog 20 #[.agg cs.toArray] w fun r w' => r = .returned (.bool bb) ∧ Below w.heap.size w w' := by
  rw [mayC_202 c hk] at hbb
  by_cases hn : c.nams.length ≤ 16
  case neg => obtain rfl := bool_no hbb (fun h => hn h.2.1); exact may_202_big cs c w h hk (by omega)
  by_cases hd : c = mkSD 202 c.nams
  case neg => obtain rfl := bool_no hbb (fun h => hd h.1); exact may_202_diff cs c w h hk hd hn
  have hb2 : bb = true ↔ ∀ x ∈ c.nams, nameP (txt x.2) := by rw [hbb]; exact ⟨fun h => h.2.2, fun h => ⟨hd, hn, h⟩⟩
  rw [hd] at h
  exact may_202_yes cs  c.nams c.nams.length w h rfl hn bb hb2
theorem rmay_203 (cs : List Value) (c : Ctl) (w : World) (h : CtRd w cs c) (hk : c.k = 203) (hf : c.fit) (bb : Bool) (hbb : bb = true ↔ mayC c) :
    Calls Tryd.prog 20 #[.agg cs.toArray] w fun r w' => r = .returned (.bool bb) ∧ Below w.heap.size w w' := by
  rw [mayC_203 c hk] at hbb
  by_cases hn : c.srcs.length ≤ 16
  case neg => obtain rfl := bool_no hbb (fun h => hn h.2); exact may_203_big cs c w h hk (by omega)
  by_cases hd : c = mkBY 203 c.srcs
  case neg => obtain rfl := bool_no hbb (fun h => hd h.1); exact may_203_diff cs c w h hk hd hn
  obtain rfl := bool_yes hbb ⟨hd, hn⟩
  rw [hd] at h
  exact may_203_yes cs  c.srcs c.srcs.length w h rfl hn
theorem rmay_1 (cs : List Value) (c : Ctl) (w : World) (h : CtRd w cs c) (hk : c.k = 1) (hf : c.fit) (bb : Bool) (hbb : bb = true ↔ mayC c) :
    Calls Tryd.prog 20 #[.agg cs.toArray] w fun r w' => r = .returned (.bool bb) ∧ Below w.heap.size w w' := by
  rw [mayC_1 c hk] at hbb
  by_cases hn1 : 1 ≤ c.loss.length
  case neg => obtain rfl := bool_no hbb (fun h => hn1 h.2.1); exact may_1_empty cs c w h hk (by omega)
  by_cases hn : c.loss.length ≤ 16
  case neg => obtain rfl := bool_no hbb (fun h => hn h.2.2); exact may_1_big cs c w h hk (by omega)
  by_cases hd : c = mkNA 1 c.so c.me c.loss
  case neg => obtain rfl := bool_no hbb (fun h => hd h.1); exact may_1_diff cs c w h hk hd hn hn1
  obtain rfl := bool_yes hbb ⟨hd, hn1, hn⟩
  rw [hd] at h
  exact may_1_yes cs c.so c.me c.loss c.loss.length w h rfl hn hn1
theorem rmay_2 (cs : List Value) (c : Ctl) (w : World) (h : CtRd w cs c) (hk : c.k = 2) (hf : c.fit) (bb : Bool) (hbb : bb = true ↔ mayC c) :
    Calls Tryd.prog 20 #[.agg cs.toArray] w fun r w' => r = .returned (.bool bb) ∧ Below w.heap.size w w' := by
  rw [mayC_2 c hk] at hbb
  by_cases hd : c = mkPL 2 c.so c.me
  case neg => obtain rfl := bool_no hbb (fun h => hd h.1); exact may_2_diff cs c w h hk hd
  obtain rfl := bool_yes hbb ⟨hd, trivial⟩
  rw [hd] at h
  exact may_2_yes cs c.so c.me  w h
theorem rmay_3 (cs : List Value) (c : Ctl) (w : World) (h : CtRd w cs c) (hk : c.k = 3) (hf : c.fit) (bb : Bool) (hbb : bb = true ↔ mayC c) :
    Calls Tryd.prog 20 #[.agg cs.toArray] w fun r w' => r = .returned (.bool bb) ∧ Below w.heap.size w w' := by
  rw [mayC_3 c hk] at hbb
  by_cases hn1 : 1 ≤ c.firs.length
  case neg => obtain rfl := bool_no hbb (fun h => hn1 h.2.1); exact may_3_empty cs c w h hk (by omega)
  by_cases hn : c.firs.length ≤ 16
  case neg => obtain rfl := bool_no hbb (fun h => hn h.2.2); exact may_3_big cs c w h hk (by omega)
  by_cases hd : c = mkFI 3 c.so c.firs
  case neg => obtain rfl := bool_no hbb (fun h => hd h.1); exact may_3_diff cs c w h hk hd hn hn1
  obtain rfl := bool_yes hbb ⟨hd, hn1, hn⟩
  rw [hd] at h
  exact may_3_yes cs c.so c.firs c.firs.length w h rfl hn hn1
theorem rmay_4 (cs : List Value) (c : Ctl) (w : World) (h : CtRd w cs c) (hk : c.k = 4) (hf : c.fit) (bb : Bool) (hbb : bb = true ↔ mayC c) :
    Calls Tryd.prog 20 #[.agg cs.toArray] w fun r w' => r = .returned (.bool bb) ∧ Below w.heap.size w w' := by
  rw [mayC_4 c hk] at hbb
  have hra : c.ra < 18446744073709551616 := hf.2.2.2.2.2.2.2.2.2.2.2.2
  by_cases hrc : c.ra < 9223372036854775808 ∧ rM c.ra * 2 ^ rE c.ra = c.ra
  case neg => obtain rfl := bool_no hbb (fun h => hrc h.2.2); exact may_4_rate cs c w h hk hra hrc
  by_cases hn : c.srcs.length ≤ 16
  case neg => obtain rfl := bool_no hbb (fun h => hn h.2.1); exact may_4_big cs c w h hk (by omega) hra hrc
  by_cases hd : c = mkRE 4 c.so c.srcs c.ra
  case neg => obtain rfl := bool_no hbb (fun h => hd h.1); exact may_4_diff cs c w h hk hd hn hra hrc
  obtain rfl := bool_yes hbb ⟨hd, hn, hrc⟩
  rw [hd] at h
  exact may_4_yes cs c.so c.ra c.srcs c.srcs.length w h rfl hn hra hrc
set_option maxRecDepth 100000 in
set_option maxHeartbeats 1000000 in
theorem may_none (cs : List Value) (c : Ctl) (w : World) (h : CtRd w cs c) (K : Int) (hK : K = c.k) (q1 : ¬ K = 200) (q2 : ¬ K = 201) (q3 : ¬ K = 202) (q4 : ¬ K = 203) (q5 : ¬ K = 1) (q6 : ¬ K = 2) (q7 : ¬ K = 3) (q8 : ¬ K = 4) :
    Calls Tryd.prog 20 #[.agg cs.toArray] w fun r w' => r = .returned (.bool false) ∧ Below w.heap.size w w' := by
  obtain ⟨A, a, B, b', C, c', D, d, E, e, h0, -⟩ := h
  subst h0
  unfold ctlC
  rw [← hK]
  clear hK
  go_enter Tryd.func20, Tryd.ntmps20
  go_wp2
  go_ret
  exact ⟨rfl, twoBelow _ _ _⟩
theorem mayC_known {c : Ctl} (h : mayC c) : c.k = 200 ∨ c.k = 201 ∨ c.k = 202 ∨ c.k = 203 ∨ c.k = 1 ∨ c.k = 2 ∨ c.k = 3 ∨ c.k = 4 := by
  rcases h with ⟨so, ti, st, pa, oc, L, rfl, h16, hx⟩ | ⟨so, L, rfl, h16, hx⟩ | ⟨L, rfl, h16, hx⟩ | ⟨L, rfl, h16⟩ | ⟨so, me, L, rfl, h1, h16⟩ | ⟨so, me, rfl⟩ | ⟨so, L, rfl, h1, h16⟩ | ⟨so, L, ra, rfl, h16, hx⟩ <;> simp [mkSR, mkRR, mkSD, mkBY, mkNA, mkPL, mkFI, mkRE]
/-- Whether a packet may be. -/
theorem rmay_any (cs : List Value) (c : Ctl) (w : World) (h : CtRd w cs c) (hf : c.fit) (bb : Bool) (hbb : bb = true ↔ mayC c) :
    Calls Tryd.prog 20 #[.agg cs.toArray] w fun r w' => r = .returned (.bool bb) ∧ Below w.heap.size w w' := by
  by_cases k200 : c.k = 200
  · exact rmay_200 cs c w h k200 hf bb hbb
  by_cases k201 : c.k = 201
  · exact rmay_201 cs c w h k201 hf bb hbb
  by_cases k202 : c.k = 202
  · exact rmay_202 cs c w h k202 hf bb hbb
  by_cases k203 : c.k = 203
  · exact rmay_203 cs c w h k203 hf bb hbb
  by_cases k1 : c.k = 1
  · exact rmay_1 cs c w h k1 hf bb hbb
  by_cases k2 : c.k = 2
  · exact rmay_2 cs c w h k2 hf bb hbb
  by_cases k3 : c.k = 3
  · exact rmay_3 cs c w h k3 hf bb hbb
  by_cases k4 : c.k = 4
  · exact rmay_4 cs c w h k4 hf bb hbb
  obtain rfl := bool_no hbb (fun hm => by rcases mayC_known hm with h | h | h | h | h | h | h | h <;> contradiction)
  exact may_none cs c w h c.k rfl k200 k201 k202 k203 k1 k2 k3 k4
end Go.Proofs.YtacaempcbdekaaaDoor
