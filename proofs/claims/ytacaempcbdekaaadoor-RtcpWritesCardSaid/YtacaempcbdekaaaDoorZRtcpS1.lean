/- What the document's answer for layer 11 tells of two packets that differ. No statement is proved here. -/
import Derived.Test.YtacaempcbdekaaaDoorZRtcp20
namespace Go.Proofs.YtacaempcbdekaaaDoor
open Go.RowKit
set_option linter.unusedVariables false

set_option maxRecDepth 100000 in
set_option maxHeartbeats 1000000 in
theorem same_no0 (x0a x0b x1a x1b x2a x2b x3a x3b x4a x4b x5a x5b x6a x6b x12a x12b : Int) (n7a n7b n8a n8b n9a n9b n10a n10b n11a n11b q7a q7b q8a q8b q9a q9b q10a q10b q11a q11b : Nat) (A7a A7b A8a A8b A9a A9b A10a A10b A11a A11b : Option Addr) (w : World) (h : ¬ x0a = x0b) :
    Calls Tryd.prog 26 #[.agg #[.int .i64 x0a, .int .u32 x1a, .int .u32 x2a, .int .u64 x3a, .int .u32 x4a, .int .u32 x5a, .int .u32 x6a, .slice A7a n7a q7a, .slice A8a n8a q8a, .slice A9a n9a q9a, .slice A10a n10a q10a, .slice A11a n11a q11a, .int .u64 x12a], .agg #[.int .i64 x0b, .int .u32 x1b, .int .u32 x2b, .int .u64 x3b, .int .u32 x4b, .int .u32 x5b, .int .u32 x6b, .slice A7b n7b q7b, .slice A8b n8b q8b, .slice A9b n9b q9b, .slice A10b n10b q10b, .slice A11b n11b q11b, .int .u64 x12b]] w fun r w' => r = .returned (.bool false) ∧ Below w.heap.size w w' := by
  go_enter Tryd.func26, Tryd.ntmps26
  go_wp2
  go_ret
  exact ⟨rfl, twoBelow _ _ _⟩
set_option maxRecDepth 100000 in
set_option maxHeartbeats 1000000 in
theorem same_no1 (x0 x1a x1b x2a x2b x3a x3b x4a x4b x5a x5b x6a x6b x12a x12b : Int) (n7a n7b n8a n8b n9a n9b n10a n10b n11a n11b q7a q7b q8a q8b q9a q9b q10a q10b q11a q11b : Nat) (A7a A7b A8a A8b A9a A9b A10a A10b A11a A11b : Option Addr) (w : World) (h : ¬ x1a = x1b) :
    Calls Tryd.prog 26 #[.agg #[.int .i64 x0, .int .u32 x1a, .int .u32 x2a, .int .u64 x3a, .int .u32 x4a, .int .u32 x5a, .int .u32 x6a, .slice A7a n7a q7a, .slice A8a n8a q8a, .slice A9a n9a q9a, .slice A10a n10a q10a, .slice A11a n11a q11a, .int .u64 x12a], .agg #[.int .i64 x0, .int .u32 x1b, .int .u32 x2b, .int .u64 x3b, .int .u32 x4b, .int .u32 x5b, .int .u32 x6b, .slice A7b n7b q7b, .slice A8b n8b q8b, .slice A9b n9b q9b, .slice A10b n10b q10b, .slice A11b n11b q11b, .int .u64 x12b]] w fun r w' => r = .returned (.bool false) ∧ Below w.heap.size w w' := by
  go_enter Tryd.func26, Tryd.ntmps26
  go_wp2
  go_ret
  exact ⟨rfl, twoBelow _ _ _⟩
set_option maxRecDepth 100000 in
set_option maxHeartbeats 1000000 in
theorem same_no2 (x0 x1 x2a x2b x3a x3b x4a x4b x5a x5b x6a x6b x12a x12b : Int) (n7a n7b n8a n8b n9a n9b n10a n10b n11a n11b q7a q7b q8a q8b q9a q9b q10a q10b q11a q11b : Nat) (A7a A7b A8a A8b A9a A9b A10a A10b A11a A11b : Option Addr) (w : World) (h : ¬ x2a = x2b) :
    Calls Tryd.prog 26 #[.agg #[.int .i64 x0, .int .u32 x1, .int .u32 x2a, .int .u64 x3a, .int .u32 x4a, .int .u32 x5a, .int .u32 x6a, .slice A7a n7a q7a, .slice A8a n8a q8a, .slice A9a n9a q9a, .slice A10a n10a q10a, .slice A11a n11a q11a, .int .u64 x12a], .agg #[.int .i64 x0, .int .u32 x1, .int .u32 x2b, .int .u64 x3b, .int .u32 x4b, .int .u32 x5b, .int .u32 x6b, .slice A7b n7b q7b, .slice A8b n8b q8b, .slice A9b n9b q9b, .slice A10b n10b q10b, .slice A11b n11b q11b, .int .u64 x12b]] w fun r w' => r = .returned (.bool false) ∧ Below w.heap.size w w' := by
  go_enter Tryd.func26, Tryd.ntmps26
  go_wp2
  go_ret
  exact ⟨rfl, twoBelow _ _ _⟩
set_option maxRecDepth 100000 in
set_option maxHeartbeats 1000000 in
theorem same_no3 (x0 x1 x2 x3a x3b x4a x4b x5a x5b x6a x6b x12a x12b : Int) (n7a n7b n8a n8b n9a n9b n10a n10b n11a n11b q7a q7b q8a q8b q9a q9b q10a q10b q11a q11b : Nat) (A7a A7b A8a A8b A9a A9b A10a A10b A11a A11b : Option Addr) (w : World) (h : ¬ x3a = x3b) :
    Calls Tryd.prog 26 #[.agg #[.int .i64 x0, .int .u32 x1, .int .u32 x2, .int .u64 x3a, .int .u32 x4a, .int .u32 x5a, .int .u32 x6a, .slice A7a n7a q7a, .slice A8a n8a q8a, .slice A9a n9a q9a, .slice A10a n10a q10a, .slice A11a n11a q11a, .int .u64 x12a], .agg #[.int .i64 x0, .int .u32 x1, .int .u32 x2, .int .u64 x3b, .int .u32 x4b, .int .u32 x5b, .int .u32 x6b, .slice A7b n7b q7b, .slice A8b n8b q8b, .slice A9b n9b q9b, .slice A10b n10b q10b, .slice A11b n11b q11b, .int .u64 x12b]] w fun r w' => r = .returned (.bool false) ∧ Below w.heap.size w w' := by
  go_enter Tryd.func26, Tryd.ntmps26
  go_wp2
  go_ret
  exact ⟨rfl, twoBelow _ _ _⟩
set_option maxRecDepth 100000 in
set_option maxHeartbeats 1000000 in
theorem same_no4 (x0 x1 x2 x3 x4a x4b x5a x5b x6a x6b x12a x12b : Int) (n7a n7b n8a n8b n9a n9b n10a n10b n11a n11b q7a q7b q8a q8b q9a q9b q10a q10b q11a q11b : Nat) (A7a A7b A8a A8b A9a A9b A10a A10b A11a A11b : Option Addr) (w : World) (h : ¬ x4a = x4b) :
    Calls Tryd.prog 26 #[.agg #[.int .i64 x0, .int .u32 x1, .int .u32 x2, .int .u64 x3, .int .u32 x4a, .int .u32 x5a, .int .u32 x6a, .slice A7a n7a q7a, .slice A8a n8a q8a, .slice A9a n9a q9a, .slice A10a n10a q10a, .slice A11a n11a q11a, .int .u64 x12a], .agg #[.int .i64 x0, .int .u32 x1, .int .u32 x2, .int .u64 x3, .int .u32 x4b, .int .u32 x5b, .int .u32 x6b, .slice A7b n7b q7b, .slice A8b n8b q8b, .slice A9b n9b q9b, .slice A10b n10b q10b, .slice A11b n11b q11b, .int .u64 x12b]] w fun r w' => r = .returned (.bool false) ∧ Below w.heap.size w w' := by
  go_enter Tryd.func26, Tryd.ntmps26
  go_wp2
  go_ret
  exact ⟨rfl, twoBelow _ _ _⟩
set_option maxRecDepth 100000 in
set_option maxHeartbeats 1000000 in
theorem same_no5 (x0 x1 x2 x3 x4 x5a x5b x6a x6b x12a x12b : Int) (n7a n7b n8a n8b n9a n9b n10a n10b n11a n11b q7a q7b q8a q8b q9a q9b q10a q10b q11a q11b : Nat) (A7a A7b A8a A8b A9a A9b A10a A10b A11a A11b : Option Addr) (w : World) (h : ¬ x5a = x5b) :
    Calls Tryd.prog 26 #[.agg #[.int .i64 x0, .int .u32 x1, .int .u32 x2, .int .u64 x3, .int .u32 x4, .int .u32 x5a, .int .u32 x6a, .slice A7a n7a q7a, .slice A8a n8a q8a, .slice A9a n9a q9a, .slice A10a n10a q10a, .slice A11a n11a q11a, .int .u64 x12a], .agg #[.int .i64 x0, .int .u32 x1, .int .u32 x2, .int .u64 x3, .int .u32 x4, .int .u32 x5b, .int .u32 x6b, .slice A7b n7b q7b, .slice A8b n8b q8b, .slice A9b n9b q9b, .slice A10b n10b q10b, .slice A11b n11b q11b, .int .u64 x12b]] w fun r w' => r = .returned (.bool false) ∧ Below w.heap.size w w' := by
  go_enter Tryd.func26, Tryd.ntmps26
  go_wp2
  go_ret
  exact ⟨rfl, twoBelow _ _ _⟩
set_option maxRecDepth 100000 in
set_option maxHeartbeats 1000000 in
theorem same_no6 (x0 x1 x2 x3 x4 x5 x6a x6b x12a x12b : Int) (n7a n7b n8a n8b n9a n9b n10a n10b n11a n11b q7a q7b q8a q8b q9a q9b q10a q10b q11a q11b : Nat) (A7a A7b A8a A8b A9a A9b A10a A10b A11a A11b : Option Addr) (w : World) (h : ¬ x6a = x6b) :
    Calls Tryd.prog 26 #[.agg #[.int .i64 x0, .int .u32 x1, .int .u32 x2, .int .u64 x3, .int .u32 x4, .int .u32 x5, .int .u32 x6a, .slice A7a n7a q7a, .slice A8a n8a q8a, .slice A9a n9a q9a, .slice A10a n10a q10a, .slice A11a n11a q11a, .int .u64 x12a], .agg #[.int .i64 x0, .int .u32 x1, .int .u32 x2, .int .u64 x3, .int .u32 x4, .int .u32 x5, .int .u32 x6b, .slice A7b n7b q7b, .slice A8b n8b q8b, .slice A9b n9b q9b, .slice A10b n10b q10b, .slice A11b n11b q11b, .int .u64 x12b]] w fun r w' => r = .returned (.bool false) ∧ Below w.heap.size w w' := by
  go_enter Tryd.func26, Tryd.ntmps26
  go_wp2
  go_ret
  exact ⟨rfl, twoBelow _ _ _⟩
set_option maxRecDepth 100000 in
set_option maxHeartbeats 1000000 in
theorem same_no12 (x0 x1 x2 x3 x4 x5 x6 x12a x12b : Int) (n7a n7b n8a n8b n9a n9b n10a n10b n11a n11b q7a q7b q8a q8b q9a q9b q10a q10b q11a q11b : Nat) (A7a A7b A8a A8b A9a A9b A10a A10b A11a A11b : Option Addr) (w : World) (h : ¬ x12a = x12b) :
    Calls Tryd.prog 26 #[.agg #[.int .i64 x0, .int .u32 x1, .int .u32 x2, .int .u64 x3, .int .u32 x4, .int .u32 x5, .int .u32 x6, .slice A7a n7a q7a, .slice A8a n8a q8a, .slice A9a n9a q9a, .slice A10a n10a q10a, .slice A11a n11a q11a, .int .u64 x12a], .agg #[.int .i64 x0, .int .u32 x1, .int .u32 x2, .int .u64 x3, .int .u32 x4, .int .u32 x5, .int .u32 x6, .slice A7b n7b q7b, .slice A8b n8b q8b, .slice A9b n9b q9b, .slice A10b n10b q10b, .slice A11b n11b q11b, .int .u64 x12b]] w fun r w' => r = .returned (.bool false) ∧ Below w.heap.size w w' := by
  go_enter Tryd.func26, Tryd.ntmps26
  go_wp2
  go_ret
  exact ⟨rfl, twoBelow _ _ _⟩
set_option maxRecDepth 100000 in
set_option maxHeartbeats 1000000 in
theorem same_no7 (x0 x1 x2 x3 x4 x5 x6 x12 : Int) (n7a n7b n8a n8b n9a n9b n10a n10b n11a n11b q7a q7b q8a q8b q9a q9b q10a q10b q11a q11b : Nat) (A7a A7b A8a A8b A9a A9b A10a A10b A11a A11b : Option Addr) (w : World) (h0 : ¬ n7a = n7b) :
    Calls Tryd.prog 26 #[.agg #[.int .i64 x0, .int .u32 x1, .int .u32 x2, .int .u64 x3, .int .u32 x4, .int .u32 x5, .int .u32 x6, .slice A7a n7a q7a, .slice A8a n8a q8a, .slice A9a n9a q9a, .slice A10a n10a q10a, .slice A11a n11a q11a, .int .u64 x12], .agg #[.int .i64 x0, .int .u32 x1, .int .u32 x2, .int .u64 x3, .int .u32 x4, .int .u32 x5, .int .u32 x6, .slice A7b n7b q7b, .slice A8b n8b q8b, .slice A9b n9b q9b, .slice A10b n10b q10b, .slice A11b n11b q11b, .int .u64 x12]] w fun r w' => r = .returned (.bool false) ∧ Below w.heap.size w w' := by
  have h : ¬ (n7a : Int) = (n7b : Int) := by omega
  clear h0
  go_enter Tryd.func26, Tryd.ntmps26
  go_wp2
  go_ret
  exact ⟨rfl, twoBelow _ _ _⟩
set_option maxRecDepth 100000 in
set_option maxHeartbeats 1000000 in
theorem same_no8 (x0 x1 x2 x3 x4 x5 x6 x12 : Int) (n7 n8a n8b n9a n9b n10a n10b n11a n11b q7a q7b q8a q8b q9a q9b q10a q10b q11a q11b : Nat) (A7a A7b A8a A8b A9a A9b A10a A10b A11a A11b : Option Addr) (w : World) (h0 : ¬ n8a = n8b) :
    Calls Tryd.prog 26 #[.agg #[.int .i64 x0, .int .u32 x1, .int .u32 x2, .int .u64 x3, .int .u32 x4, .int .u32 x5, .int .u32 x6, .slice A7a n7 q7a, .slice A8a n8a q8a, .slice A9a n9a q9a, .slice A10a n10a q10a, .slice A11a n11a q11a, .int .u64 x12], .agg #[.int .i64 x0, .int .u32 x1, .int .u32 x2, .int .u64 x3, .int .u32 x4, .int .u32 x5, .int .u32 x6, .slice A7b n7 q7b, .slice A8b n8b q8b, .slice A9b n9b q9b, .slice A10b n10b q10b, .slice A11b n11b q11b, .int .u64 x12]] w fun r w' => r = .returned (.bool false) ∧ Below w.heap.size w w' := by
  have h : ¬ (n8a : Int) = (n8b : Int) := by omega
  clear h0
  go_enter Tryd.func26, Tryd.ntmps26
  go_wp2
  go_ret
  exact ⟨rfl, twoBelow _ _ _⟩
set_option maxRecDepth 100000 in
set_option maxHeartbeats 1000000 in
theorem same_no9 (x0 x1 x2 x3 x4 x5 x6 x12 : Int) (n7 n8 n9a n9b n10a n10b n11a n11b q7a q7b q8a q8b q9a q9b q10a q10b q11a q11b : Nat) (A7a A7b A8a A8b A9a A9b A10a A10b A11a A11b : Option Addr) (w : World) (h0 : ¬ n9a = n9b) :
    Calls Tryd.prog 26 #[.agg #[.int .i64 x0, .int .u32 x1, .int .u32 x2, .int .u64 x3, .int .u32 x4, .int .u32 x5, .int .u32 x6, .slice A7a n7 q7a, .slice A8a n8 q8a, .slice A9a n9a q9a, .slice A10a n10a q10a, .slice A11a n11a q11a, .int .u64 x12], .agg #[.int .i64 x0, .int .u32 x1, .int .u32 x2, .int .u64 x3, .int .u32 x4, .int .u32 x5, .int .u32 x6, .slice A7b n7 q7b, .slice A8b n8 q8b, .slice A9b n9b q9b, .slice A10b n10b q10b, .slice A11b n11b q11b, .int .u64 x12]] w fun r w' => r = .returned (.bool false) ∧ Below w.heap.size w w' := by
  have h : ¬ (n9a : Int) = (n9b : Int) := by omega
  clear h0
  go_enter Tryd.func26, Tryd.ntmps26
  go_wp2
  go_ret
  exact ⟨rfl, twoBelow _ _ _⟩
set_option maxRecDepth 100000 in
set_option maxHeartbeats 1000000 in
theorem same_no10 (x0 x1 x2 x3 x4 x5 x6 x12 : Int) (n7 n8 n9 n10a n10b n11a n11b q7a q7b q8a q8b q9a q9b q10a q10b q11a q11b : Nat) (A7a A7b A8a A8b A9a A9b A10a A10b A11a A11b : Option Addr) (w : World) (h0 : ¬ n10a = n10b) :
    Calls Tryd.prog 26 #[.agg #[.int .i64 x0, .int .u32 x1, .int .u32 x2, .int .u64 x3, .int .u32 x4, .int .u32 x5, .int .u32 x6, .slice A7a n7 q7a, .slice A8a n8 q8a, .slice A9a n9 q9a, .slice A10a n10a q10a, .slice A11a n11a q11a, .int .u64 x12], .agg #[.int .i64 x0, .int .u32 x1, .int .u32 x2, .int .u64 x3, .int .u32 x4, .int .u32 x5, .int .u32 x6, .slice A7b n7 q7b, .slice A8b n8 q8b, .slice A9b n9 q9b, .slice A10b n10b q10b, .slice A11b n11b q11b, .int .u64 x12]] w fun r w' => r = .returned (.bool false) ∧ Below w.heap.size w w' := by
  have h : ¬ (n10a : Int) = (n10b : Int) := by omega
  clear h0
  go_enter Tryd.func26, Tryd.ntmps26
  go_wp2
  go_ret
  exact ⟨rfl, twoBelow _ _ _⟩
set_option maxRecDepth 100000 in
set_option maxHeartbeats 1000000 in
theorem same_no11 (x0 x1 x2 x3 x4 x5 x6 x12 : Int) (n7 n8 n9 n10 n11a n11b q7a q7b q8a q8b q9a q9b q10a q10b q11a q11b : Nat) (A7a A7b A8a A8b A9a A9b A10a A10b A11a A11b : Option Addr) (w : World) (h0 : ¬ n11a = n11b) :
    Calls Tryd.prog 26 #[.agg #[.int .i64 x0, .int .u32 x1, .int .u32 x2, .int .u64 x3, .int .u32 x4, .int .u32 x5, .int .u32 x6, .slice A7a n7 q7a, .slice A8a n8 q8a, .slice A9a n9 q9a, .slice A10a n10 q10a, .slice A11a n11a q11a, .int .u64 x12], .agg #[.int .i64 x0, .int .u32 x1, .int .u32 x2, .int .u64 x3, .int .u32 x4, .int .u32 x5, .int .u32 x6, .slice A7b n7 q7b, .slice A8b n8 q8b, .slice A9b n9 q9b, .slice A10b n10 q10b, .slice A11b n11b q11b, .int .u64 x12]] w fun r w' => r = .returned (.bool false) ∧ Below w.heap.size w w' := by
  have h : ¬ (n11a : Int) = (n11b : Int) := by omega
  clear h0
  go_enter Tryd.func26, Tryd.ntmps26
  go_wp2
  go_ret
  exact ⟨rfl, twoBelow _ _ _⟩
/-- The same but for what is in the lists. -/
def eqH (c1 c2 : Ctl) : Prop := c1.k = c2.k ∧ c1.so = c2.so ∧ c1.me = c2.me ∧ c1.ti = c2.ti ∧ c1.st = c2.st ∧ c1.pa = c2.pa ∧ c1.oc = c2.oc ∧ c1.ra = c2.ra ∧ c1.reps.length = c2.reps.length ∧ c1.nams.length = c2.nams.length ∧ c1.srcs.length = c2.srcs.length ∧ c1.loss.length = c2.loss.length ∧ c1.firs.length = c2.firs.length
theorem same_no (cs1 cs2 : List Value) (c1 c2 : Ctl) (w : World) (h1 : CtRd w cs1 c1) (h2 : CtRd w cs2 c2) (h : ¬ eqH c1 c2) :
    Calls Tryd.prog 26 #[.agg cs1.toArray, .agg cs2.toArray] w fun r w' => r = .returned (.bool false) ∧ Below w.heap.size w w' := by
  obtain ⟨A7a, q7a, A8a, q8a, A9a, q9a, A10a, q10a, A11a, q11a, rfl, -⟩ := h1
  obtain ⟨A7b, q7b, A8b, q8b, A9b, q9b, A10b, q10b, A11b, q11b, rfl, -⟩ := h2
  unfold ctlC
  by_cases e0 : c1.k = c2.k
  case neg => exact same_no0 _ _ _ _ _ _ _ _ _ _ _ _ _ _ _ _ _ _ _ _ _ _ _ _ _ _ _ _ _ _ _ _ _ _ _ _ _ _ _ _ _ _ _ _ _ _ _ e0
  by_cases e1 : c1.so = c2.so
  case neg => rw [e0]; exact same_no1 _ _ _ _ _ _ _ _ _ _ _ _ _ _ _ _ _ _ _ _ _ _ _ _ _ _ _ _ _ _ _ _ _ _ _ _ _ _ _ _ _ _ _ _ _ _ (fun he => e1 (by omega))
  by_cases e2 : c1.me = c2.me
  case neg => rw [e0]; rw [e1]; exact same_no2 _ _ _ _ _ _ _ _ _ _ _ _ _ _ _ _ _ _ _ _ _ _ _ _ _ _ _ _ _ _ _ _ _ _ _ _ _ _ _ _ _ _ _ _ _ (fun he => e2 (by omega))
  by_cases e3 : c1.ti = c2.ti
  case neg => rw [e0]; rw [e1]; rw [e2]; exact same_no3 _ _ _ _ _ _ _ _ _ _ _ _ _ _ _ _ _ _ _ _ _ _ _ _ _ _ _ _ _ _ _ _ _ _ _ _ _ _ _ _ _ _ _ _ (fun he => e3 (by omega))
  by_cases e4 : c1.st = c2.st
  case neg => rw [e0]; rw [e1]; rw [e2]; rw [e3]; exact same_no4 _ _ _ _ _ _ _ _ _ _ _ _ _ _ _ _ _ _ _ _ _ _ _ _ _ _ _ _ _ _ _ _ _ _ _ _ _ _ _ _ _ _ _ (fun he => e4 (by omega))
  by_cases e5 : c1.pa = c2.pa
  case neg => rw [e0]; rw [e1]; rw [e2]; rw [e3]; rw [e4]; exact same_no5 _ _ _ _ _ _ _ _ _ _ _ _ _ _ _ _ _ _ _ _ _ _ _ _ _ _ _ _ _ _ _ _ _ _ _ _ _ _ _ _ _ _ (fun he => e5 (by omega))
  by_cases e6 : c1.oc = c2.oc
  case neg => rw [e0]; rw [e1]; rw [e2]; rw [e3]; rw [e4]; rw [e5]; exact same_no6 _ _ _ _ _ _ _ _ _ _ _ _ _ _ _ _ _ _ _ _ _ _ _ _ _ _ _ _ _ _ _ _ _ _ _ _ _ _ _ _ _ (fun he => e6 (by omega))
  by_cases e12 : c1.ra = c2.ra
  case neg => rw [e0]; rw [e1]; rw [e2]; rw [e3]; rw [e4]; rw [e5]; rw [e6]; exact same_no12 _ _ _ _ _ _ _ _ _ _ _ _ _ _ _ _ _ _ _ _ _ _ _ _ _ _ _ _ _ _ _ _ _ _ _ _ _ _ _ _ (fun he => e12 (by omega))
  by_cases e7 : c1.reps.length = c2.reps.length
  case neg => rw [e0]; rw [e1]; rw [e2]; rw [e3]; rw [e4]; rw [e5]; rw [e6]; rw [e12]; exact same_no7 _ _ _ _ _ _ _ _ _ _ _ _ _ _ _ _ _ _ _ _ _ _ _ _ _ _ _ _ _ _ _ _ _ _ _ _ _ _ _ e7
  by_cases e8 : c1.nams.length = c2.nams.length
  case neg => rw [e0]; rw [e1]; rw [e2]; rw [e3]; rw [e4]; rw [e5]; rw [e6]; rw [e12]; rw [e7]; exact same_no8 _ _ _ _ _ _ _ _ _ _ _ _ _ _ _ _ _ _ _ _ _ _ _ _ _ _ _ _ _ _ _ _ _ _ _ _ _ _ e8
  by_cases e9 : c1.srcs.length = c2.srcs.length
  case neg => rw [e0]; rw [e1]; rw [e2]; rw [e3]; rw [e4]; rw [e5]; rw [e6]; rw [e12]; rw [e7]; rw [e8]; exact same_no9 _ _ _ _ _ _ _ _ _ _ _ _ _ _ _ _ _ _ _ _ _ _ _ _ _ _ _ _ _ _ _ _ _ _ _ _ _ e9
  by_cases e10 : c1.loss.length = c2.loss.length
  case neg => rw [e0]; rw [e1]; rw [e2]; rw [e3]; rw [e4]; rw [e5]; rw [e6]; rw [e12]; rw [e7]; rw [e8]; rw [e9]; exact same_no10 _ _ _ _ _ _ _ _ _ _ _ _ _ _ _ _ _ _ _ _ _ _ _ _ _ _ _ _ _ _ _ _ _ _ _ _ e10
  by_cases e11 : c1.firs.length = c2.firs.length
  case neg => rw [e0]; rw [e1]; rw [e2]; rw [e3]; rw [e4]; rw [e5]; rw [e6]; rw [e12]; rw [e7]; rw [e8]; rw [e9]; rw [e10]; exact same_no11 _ _ _ _ _ _ _ _ _ _ _ _ _ _ _ _ _ _ _ _ _ _ _ _ _ _ _ _ _ _ _ _ _ _ _ e11
  exact absurd ⟨e0, e1, e2, e3, e4, e5, e6, e12, e7, e8, e9, e10, e11⟩ h
end Go.Proofs.YtacaempcbdekaaaDoor
