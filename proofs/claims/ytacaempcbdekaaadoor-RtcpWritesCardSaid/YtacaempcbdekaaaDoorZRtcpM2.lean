/- What the document's answer for layer 11 tells of which packets may be: NACK, PLI, FIR where they may not. No statement is proved here. -/
import Derived.Test.YtacaempcbdekaaaDoorZRtcpM1
namespace Go.Proofs.YtacaempcbdekaaaDoor
open Go.RowKit
set_option linter.unusedVariables false

set_option maxRecDepth 100000 in
set_option maxHeartbeats 1000000 in
theorem may_1_empty (cs : List Value) (c : Ctl) (w : World) (h : CtRd w cs c) (hk : c.k = 1) (hn : c.loss.length = 0) :
    Calls Tryd.prog 20 #[.agg cs.toArray] w fun r w' => r = .returned (.bool false) ∧ Below w.heap.size w w' := by
  obtain ⟨A, a, B, b', C, c', D, d, E, e, h0, r7, r8, r9, r10, r11⟩ := h
  subst h0
  unfold ctlC
  rw [hk]
  obtain ⟨n, hnn⟩ : ∃ n, n = c.loss.length := ⟨_, rfl⟩
  rw [← hnn] at hn ⊢
  clear hnn
  subst hn
  clear r7 r8 r9 r10 r11 hk
  go_enter Tryd.func20, Tryd.ntmps20
  go_wp2
  go_ret
  exact ⟨rfl, twoBelow _ _ _⟩
set_option maxRecDepth 100000 in
set_option maxHeartbeats 1000000 in
theorem may_1_big (cs : List Value) (c : Ctl) (w : World) (h : CtRd w cs c) (hk : c.k = 1) (hn : 16 < c.loss.length) :
    Calls Tryd.prog 20 #[.agg cs.toArray] w fun r w' => r = .returned (.bool false) ∧ Below w.heap.size w w' := by
  obtain ⟨A, a, B, b', C, c', D, d, E, e, h0, r7, r8, r9, r10, r11⟩ := h
  subst h0
  unfold ctlC
  rw [hk]
  obtain ⟨n, hnn⟩ : ∃ n, n = c.loss.length := ⟨_, rfl⟩
  rw [← hnn] at hn ⊢
  clear hnn
  have hn0 : ¬ (n : Int) = 0 := by omega
  clear r7 r8 r9 r10 r11 hk
  go_enter Tryd.func20, Tryd.ntmps20
  go_wp2
  go_ret
  exact ⟨rfl, twoBelow _ _ _⟩
set_option maxRecDepth 100000 in
set_option maxHeartbeats 1000000 in
theorem may_1_diff (cs : List Value) (c : Ctl) (w : World) (h : CtRd w cs c) (hk : c.k = 1) (hne : ¬ c = mkNA 1 c.so c.me c.loss) (hn : c.loss.length ≤ 16) (hn1 : 1 ≤ c.loss.length) :
    Calls Tryd.prog 20 #[.agg cs.toArray] w fun r w' => r = .returned (.bool false) ∧ Below w.heap.size w w' := by
  have hCS := h
  obtain ⟨A, a, B, b', C, c', D, d, E, e, h0, r7, r8, r9, r10, r11⟩ := h
  subst h0
  unfold ctlC at hCS ⊢
  rw [hk] at hCS ⊢
  have SM : Hid (Calls Tryd.prog 26 #[.agg #[.int .i64 1, .int .u32 (c.so : Int), .int .u32 (c.me : Int), .int .u64 (c.ti : Int), .int .u32 (c.st : Int), .int .u32 (c.pa : Int), .int .u32 (c.oc : Int), .slice A c.reps.length a, .slice B c.nams.length b', .slice C c.srcs.length c', .slice D c.loss.length d, .slice E c.firs.length e, .int .u64 (c.ra : Int)], .agg #[.int .i64 1, .int .u32 (c.so : Int), .int .u32 (c.me : Int), .int .u64 0, .int .u32 0, .int .u32 0, .int .u32 0, .slice none 0 0, .slice none 0 0, .slice none 0 0, .slice D c.loss.length d, .slice none 0 0, .int .u64 0]] ((w.alloc (.cells #[.int .i64 1, .int .u32 (c.so : Int), .int .u32 (c.me : Int), .int .u64 (c.ti : Int), .int .u32 (c.st : Int), .int .u32 (c.pa : Int), .int .u32 (c.oc : Int), .slice A c.reps.length a, .slice B c.nams.length b', .slice C c.srcs.length c', .slice D c.loss.length d, .slice E c.firs.length e, .int .u64 (c.ra : Int)] 50)).alloc (.cells #[.int .i64 1, .int .u32 (c.so : Int), .int .u32 (c.me : Int), .int .u64 0, .int .u32 0, .int .u32 0, .int .u32 0, .slice none 0 0, .slice none 0 0, .slice none 0 0, .slice D c.loss.length d, .slice none 0 0, .int .u64 0] 50)) fun r w' => r = .returned (.bool false) ∧ Below ((w.alloc (.cells #[.int .i64 1, .int .u32 (c.so : Int), .int .u32 (c.me : Int), .int .u64 (c.ti : Int), .int .u32 (c.st : Int), .int .u32 (c.pa : Int), .int .u32 (c.oc : Int), .slice A c.reps.length a, .slice B c.nams.length b', .slice C c.srcs.length c', .slice D c.loss.length d, .slice E c.firs.length e, .int .u64 (c.ra : Int)] 50)).alloc (.cells #[.int .i64 1, .int .u32 (c.so : Int), .int .u32 (c.me : Int), .int .u64 0, .int .u32 0, .int .u32 0, .int .u32 0, .slice none 0 0, .slice none 0 0, .slice none 0 0, .slice D c.loss.length d, .slice none 0 0, .int .u64 0] 50)).heap.size ((w.alloc (.cells #[.int .i64 1, .int .u32 (c.so : Int), .int .u32 (c.me : Int), .int .u64 (c.ti : Int), .int .u32 (c.st : Int), .int .u32 (c.pa : Int), .int .u32 (c.oc : Int), .slice A c.reps.length a, .slice B c.nams.length b', .slice C c.srcs.length c', .slice D c.loss.length d, .slice E c.firs.length e, .int .u64 (c.ra : Int)] 50)).alloc (.cells #[.int .i64 1, .int .u32 (c.so : Int), .int .u32 (c.me : Int), .int .u64 0, .int .u32 0, .int .u32 0, .int .u32 0, .slice none 0 0, .slice none 0 0, .slice none 0 0, .slice D c.loss.length d, .slice none 0 0, .int .u64 0] 50)) w') := Lib.hid (by
    have hD : CtRd w [.int .i64 1, .int .u32 (c.so : Int), .int .u32 (c.me : Int), .int .u64 0, .int .u32 0, .int .u32 0, .int .u32 0, .slice none 0 0, .slice none 0 0, .slice none 0 0, .slice D c.loss.length d, .slice none 0 0, .int .u64 0] (mkNA 1 c.so c.me c.loss) := ⟨none, 0, none, 0, none, 0, D, d, none, 0, rfl, nilG _ _, nilG _ _, nilG _ _, r10, nilG _ _⟩
    exact same_no [.int .i64 1, .int .u32 (c.so : Int), .int .u32 (c.me : Int), .int .u64 (c.ti : Int), .int .u32 (c.st : Int), .int .u32 (c.pa : Int), .int .u32 (c.oc : Int), .slice A c.reps.length a, .slice B c.nams.length b', .slice C c.srcs.length c', .slice D c.loss.length d, .slice E c.firs.length e, .int .u64 (c.ra : Int)] [.int .i64 1, .int .u32 (c.so : Int), .int .u32 (c.me : Int), .int .u64 0, .int .u32 0, .int .u32 0, .int .u32 0, .slice none 0 0, .slice none 0 0, .slice none 0 0, .slice D c.loss.length d, .slice none 0 0, .int .u64 0] c (mkNA 1 c.so c.me c.loss) _ (hCS.below (twoBelow _ _ _)) (hD.below (twoBelow _ _ _)) (fun he => hne (eqH_1 c he)))
  clear hCS hne
  obtain ⟨n, hnn⟩ : ∃ n, n = c.loss.length := ⟨_, rfl⟩
  rw [← hnn] at hn SM hn1 ⊢
  clear hnn
  have hn0 : ¬ (n : Int) = 0 := by omega
  clear r7 r8 r9 r10 r11 hk
  go_enter Tryd.func20, Tryd.ntmps20
  go_wp2_with (first
    | (go_at_call 26; ((with_reducible refine (Hid.out SM).mono ?_); rintro r w4 ⟨rfl, hb⟩; have B4 := Lib.hid ((twoBelow w _ _).trans (hb.mono (twoBelow w _ _).size)); clear hb)))
  go_ret
  exact ⟨rfl, B4.out⟩
set_option maxRecDepth 100000 in
set_option maxHeartbeats 1000000 in
theorem may_2_diff (cs : List Value) (c : Ctl) (w : World) (h : CtRd w cs c) (hk : c.k = 2) (hne : ¬ c = mkPL 2 c.so c.me) :
    Calls Tryd.prog 20 #[.agg cs.toArray] w fun r w' => r = .returned (.bool false) ∧ Below w.heap.size w w' := by
  have hCS := h
  obtain ⟨A, a, B, b', C, c', D, d, E, e, h0, r7, r8, r9, r10, r11⟩ := h
  subst h0
  unfold ctlC at hCS ⊢
  rw [hk] at hCS ⊢
  have SM : Hid (Calls Tryd.prog 26 #[.agg #[.int .i64 2, .int .u32 (c.so : Int), .int .u32 (c.me : Int), .int .u64 (c.ti : Int), .int .u32 (c.st : Int), .int .u32 (c.pa : Int), .int .u32 (c.oc : Int), .slice A c.reps.length a, .slice B c.nams.length b', .slice C c.srcs.length c', .slice D c.loss.length d, .slice E c.firs.length e, .int .u64 (c.ra : Int)], .agg #[.int .i64 2, .int .u32 (c.so : Int), .int .u32 (c.me : Int), .int .u64 0, .int .u32 0, .int .u32 0, .int .u32 0, .slice none 0 0, .slice none 0 0, .slice none 0 0, .slice none 0 0, .slice none 0 0, .int .u64 0]] ((w.alloc (.cells #[.int .i64 2, .int .u32 (c.so : Int), .int .u32 (c.me : Int), .int .u64 (c.ti : Int), .int .u32 (c.st : Int), .int .u32 (c.pa : Int), .int .u32 (c.oc : Int), .slice A c.reps.length a, .slice B c.nams.length b', .slice C c.srcs.length c', .slice D c.loss.length d, .slice E c.firs.length e, .int .u64 (c.ra : Int)] 50)).alloc (.cells #[.int .i64 2, .int .u32 (c.so : Int), .int .u32 (c.me : Int), .int .u64 0, .int .u32 0, .int .u32 0, .int .u32 0, .slice none 0 0, .slice none 0 0, .slice none 0 0, .slice none 0 0, .slice none 0 0, .int .u64 0] 50)) fun r w' => r = .returned (.bool false) ∧ Below ((w.alloc (.cells #[.int .i64 2, .int .u32 (c.so : Int), .int .u32 (c.me : Int), .int .u64 (c.ti : Int), .int .u32 (c.st : Int), .int .u32 (c.pa : Int), .int .u32 (c.oc : Int), .slice A c.reps.length a, .slice B c.nams.length b', .slice C c.srcs.length c', .slice D c.loss.length d, .slice E c.firs.length e, .int .u64 (c.ra : Int)] 50)).alloc (.cells #[.int .i64 2, .int .u32 (c.so : Int), .int .u32 (c.me : Int), .int .u64 0, .int .u32 0, .int .u32 0, .int .u32 0, .slice none 0 0, .slice none 0 0, .slice none 0 0, .slice none 0 0, .slice none 0 0, .int .u64 0] 50)).heap.size ((w.alloc (.cells #[.int .i64 2, .int .u32 (c.so : Int), .int .u32 (c.me : Int), .int .u64 (c.ti : Int), .int .u32 (c.st : Int), .int .u32 (c.pa : Int), .int .u32 (c.oc : Int), .slice A c.reps.length a, .slice B c.nams.length b', .slice C c.srcs.length c', .slice D c.loss.length d, .slice E c.firs.length e, .int .u64 (c.ra : Int)] 50)).alloc (.cells #[.int .i64 2, .int .u32 (c.so : Int), .int .u32 (c.me : Int), .int .u64 0, .int .u32 0, .int .u32 0, .int .u32 0, .slice none 0 0, .slice none 0 0, .slice none 0 0, .slice none 0 0, .slice none 0 0, .int .u64 0] 50)) w') := Lib.hid (by
    have hD : CtRd w [.int .i64 2, .int .u32 (c.so : Int), .int .u32 (c.me : Int), .int .u64 0, .int .u32 0, .int .u32 0, .int .u32 0, .slice none 0 0, .slice none 0 0, .slice none 0 0, .slice none 0 0, .slice none 0 0, .int .u64 0] (mkPL 2 c.so c.me) := ⟨none, 0, none, 0, none, 0, none, 0, none, 0, rfl, nilG _ _, nilG _ _, nilG _ _, nilG _ _, nilG _ _⟩
    exact same_no [.int .i64 2, .int .u32 (c.so : Int), .int .u32 (c.me : Int), .int .u64 (c.ti : Int), .int .u32 (c.st : Int), .int .u32 (c.pa : Int), .int .u32 (c.oc : Int), .slice A c.reps.length a, .slice B c.nams.length b', .slice C c.srcs.length c', .slice D c.loss.length d, .slice E c.firs.length e, .int .u64 (c.ra : Int)] [.int .i64 2, .int .u32 (c.so : Int), .int .u32 (c.me : Int), .int .u64 0, .int .u32 0, .int .u32 0, .int .u32 0, .slice none 0 0, .slice none 0 0, .slice none 0 0, .slice none 0 0, .slice none 0 0, .int .u64 0] c (mkPL 2 c.so c.me) _ (hCS.below (twoBelow _ _ _)) (hD.below (twoBelow _ _ _)) (fun he => hne (eqH_2 c he)))
  clear hCS hne
  clear r7 r8 r9 r10 r11 hk
  go_enter Tryd.func20, Tryd.ntmps20
  go_wp2_with (first
    | (go_at_call 26; ((with_reducible refine (Hid.out SM).mono ?_); rintro r w4 ⟨rfl, hb⟩; have B4 := Lib.hid ((twoBelow w _ _).trans (hb.mono (twoBelow w _ _).size)); clear hb)))
  go_ret
  exact ⟨rfl, B4.out⟩
set_option maxRecDepth 100000 in
set_option maxHeartbeats 1000000 in
theorem may_3_empty (cs : List Value) (c : Ctl) (w : World) (h : CtRd w cs c) (hk : c.k = 3) (hn : c.firs.length = 0) :
    Calls Tryd.prog 20 #[.agg cs.toArray] w fun r w' => r = .returned (.bool false) ∧ Below w.heap.size w w' := by
  obtain ⟨A, a, B, b', C, c', D, d, E, e, h0, r7, r8, r9, r10, r11⟩ := h
  subst h0
  unfold ctlC
  rw [hk]
  obtain ⟨n, hnn⟩ : ∃ n, n = c.firs.length := ⟨_, rfl⟩
  rw [← hnn] at hn ⊢
  clear hnn
  subst hn
  clear r7 r8 r9 r10 r11 hk
  go_enter Tryd.func20, Tryd.ntmps20
  go_wp2
  go_ret
  exact ⟨rfl, twoBelow _ _ _⟩
set_option maxRecDepth 100000 in
set_option maxHeartbeats 1000000 in
theorem may_3_big (cs : List Value) (c : Ctl) (w : World) (h : CtRd w cs c) (hk : c.k = 3) (hn : 16 < c.firs.length) :
    Calls Tryd.prog 20 #[.agg cs.toArray] w fun r w' => r = .returned (.bool false) ∧ Below w.heap.size w w' := by
  obtain ⟨A, a, B, b', C, c', D, d, E, e, h0, r7, r8, r9, r10, r11⟩ := h
  subst h0
  unfold ctlC
  rw [hk]
  obtain ⟨n, hnn⟩ : ∃ n, n = c.firs.length := ⟨_, rfl⟩
  rw [← hnn] at hn ⊢
  clear hnn
  have hn0 : ¬ (n : Int) = 0 := by omega
  clear r7 r8 r9 r10 r11 hk
  go_enter Tryd.func20, Tryd.ntmps20
  go_wp2
  go_ret
  exact ⟨rfl, twoBelow _ _ _⟩
set_option maxRecDepth 100000 in
set_option maxHeartbeats 1000000 in
theorem may_3_diff (cs : List Value) (c : Ctl) (w : World) (h : CtRd w cs c) (hk : c.k = 3) (hne : ¬ c = mkFI 3 c.so c.firs) (hn : c.firs.length ≤ 16) (hn1 : 1 ≤ c.firs.length) :
    Calls Tryd.prog 20 #[.agg cs.toArray] w fun r w' => r = .returned (.bool false) ∧ Below w.heap.size w w' := by
  have hCS := h
  obtain ⟨A, a, B, b', C, c', D, d, E, e, h0, r7, r8, r9, r10, r11⟩ := h
  subst h0
  unfold ctlC at hCS ⊢
  rw [hk] at hCS ⊢
  have SM : Hid (Calls Tryd.prog 26 #[.agg #[.int .i64 3, .int .u32 (c.so : Int), .int .u32 (c.me : Int), .int .u64 (c.ti : Int), .int .u32 (c.st : Int), .int .u32 (c.pa : Int), .int .u32 (c.oc : Int), .slice A c.reps.length a, .slice B c.nams.length b', .slice C c.srcs.length c', .slice D c.loss.length d, .slice E c.firs.length e, .int .u64 (c.ra : Int)], .agg #[.int .i64 3, .int .u32 (c.so : Int), .int .u32 0, .int .u64 0, .int .u32 0, .int .u32 0, .int .u32 0, .slice none 0 0, .slice none 0 0, .slice none 0 0, .slice none 0 0, .slice E c.firs.length e, .int .u64 0]] ((w.alloc (.cells #[.int .i64 3, .int .u32 (c.so : Int), .int .u32 (c.me : Int), .int .u64 (c.ti : Int), .int .u32 (c.st : Int), .int .u32 (c.pa : Int), .int .u32 (c.oc : Int), .slice A c.reps.length a, .slice B c.nams.length b', .slice C c.srcs.length c', .slice D c.loss.length d, .slice E c.firs.length e, .int .u64 (c.ra : Int)] 50)).alloc (.cells #[.int .i64 3, .int .u32 (c.so : Int), .int .u32 0, .int .u64 0, .int .u32 0, .int .u32 0, .int .u32 0, .slice none 0 0, .slice none 0 0, .slice none 0 0, .slice none 0 0, .slice E c.firs.length e, .int .u64 0] 50)) fun r w' => r = .returned (.bool false) ∧ Below ((w.alloc (.cells #[.int .i64 3, .int .u32 (c.so : Int), .int .u32 (c.me : Int), .int .u64 (c.ti : Int), .int .u32 (c.st : Int), .int .u32 (c.pa : Int), .int .u32 (c.oc : Int), .slice A c.reps.length a, .slice B c.nams.length b', .slice C c.srcs.length c', .slice D c.loss.length d, .slice E c.firs.length e, .int .u64 (c.ra : Int)] 50)).alloc (.cells #[.int .i64 3, .int .u32 (c.so : Int), .int .u32 0, .int .u64 0, .int .u32 0, .int .u32 0, .int .u32 0, .slice none 0 0, .slice none 0 0, .slice none 0 0, .slice none 0 0, .slice E c.firs.length e, .int .u64 0] 50)).heap.size ((w.alloc (.cells #[.int .i64 3, .int .u32 (c.so : Int), .int .u32 (c.me : Int), .int .u64 (c.ti : Int), .int .u32 (c.st : Int), .int .u32 (c.pa : Int), .int .u32 (c.oc : Int), .slice A c.reps.length a, .slice B c.nams.length b', .slice C c.srcs.length c', .slice D c.loss.length d, .slice E c.firs.length e, .int .u64 (c.ra : Int)] 50)).alloc (.cells #[.int .i64 3, .int .u32 (c.so : Int), .int .u32 0, .int .u64 0, .int .u32 0, .int .u32 0, .int .u32 0, .slice none 0 0, .slice none 0 0, .slice none 0 0, .slice none 0 0, .slice E c.firs.length e, .int .u64 0] 50)) w') := Lib.hid (by
    have hD : CtRd w [.int .i64 3, .int .u32 (c.so : Int), .int .u32 0, .int .u64 0, .int .u32 0, .int .u32 0, .int .u32 0, .slice none 0 0, .slice none 0 0, .slice none 0 0, .slice none 0 0, .slice E c.firs.length e, .int .u64 0] (mkFI 3 c.so c.firs) := ⟨none, 0, none, 0, none, 0, none, 0, E, e, rfl, nilG _ _, nilG _ _, nilG _ _, nilG _ _, r11⟩
    exact same_no [.int .i64 3, .int .u32 (c.so : Int), .int .u32 (c.me : Int), .int .u64 (c.ti : Int), .int .u32 (c.st : Int), .int .u32 (c.pa : Int), .int .u32 (c.oc : Int), .slice A c.reps.length a, .slice B c.nams.length b', .slice C c.srcs.length c', .slice D c.loss.length d, .slice E c.firs.length e, .int .u64 (c.ra : Int)] [.int .i64 3, .int .u32 (c.so : Int), .int .u32 0, .int .u64 0, .int .u32 0, .int .u32 0, .int .u32 0, .slice none 0 0, .slice none 0 0, .slice none 0 0, .slice none 0 0, .slice E c.firs.length e, .int .u64 0] c (mkFI 3 c.so c.firs) _ (hCS.below (twoBelow _ _ _)) (hD.below (twoBelow _ _ _)) (fun he => hne (eqH_3 c he)))
  clear hCS hne
  obtain ⟨n, hnn⟩ : ∃ n, n = c.firs.length := ⟨_, rfl⟩
  rw [← hnn] at hn SM hn1 ⊢
  clear hnn
  have hn0 : ¬ (n : Int) = 0 := by omega
  clear r7 r8 r9 r10 r11 hk
  go_enter Tryd.func20, Tryd.ntmps20
  go_wp2_with (first
    | (go_at_call 26; ((with_reducible refine (Hid.out SM).mono ?_); rintro r w4 ⟨rfl, hb⟩; have B4 := Lib.hid ((twoBelow w _ _).trans (hb.mono (twoBelow w _ _).size)); clear hb)))
  go_ret
  exact ⟨rfl, B4.out⟩
end Go.Proofs.YtacaempcbdekaaaDoor
