/- What the document's answer for layer 11 tells of which packets may be: where a packet is not of its kind alone, or is too long. No statement is proved here. -/
import Derived.Test.YtacaempcbdekaaaDoorZH
namespace Go.Proofs.YtacaempcbdekaaaDoor
open Go.RowKit
set_option linter.unusedVariables false

theorem nilG (sz : Nat) (w : World) : RdG sz w none [] := ⟨by simp, fun h => absurd h (by simp)⟩
theorem bool_no {b : Bool} {P : Prop} (h : b = true ↔ P) (hn : ¬ P) : b = false := by
  cases b with
  | false => rfl
  | true => exact absurd (h.1 rfl) hn
theorem bool_yes {b : Bool} {P : Prop} (h : b = true ↔ P) (hp : P) : b = true := h.2 hp
theorem list0 {α : Type} {l : List α} (h : l.length = 0) : l = [] := List.length_eq_zero_iff.1 h
theorem mayC_200 (c : Ctl) (hk : c.k = 200) : mayC c ↔ c = mkSR 200 c.so c.ti c.st c.pa c.oc c.reps ∧ c.reps.length ≤ 16 ∧ ∀ x ∈ c.reps, x.ok := by
  constructor
  · rintro (⟨so, ti, st, pa, oc, L, rfl, h16, hx⟩ | ⟨so, L, rfl, h16, hx⟩ | ⟨L, rfl, h16, hx⟩ | ⟨L, rfl, h16⟩ | ⟨so, me, L, rfl, h1, h16⟩ | ⟨so, me, rfl⟩ | ⟨so, L, rfl, h1, h16⟩ | ⟨so, L, ra, rfl, h16, hx⟩)
    · exact ⟨rfl, h16, hx⟩
    · simp [mkRR] at hk
    · simp [mkSD] at hk
    · simp [mkBY] at hk
    · simp [mkNA] at hk
    · simp [mkPL] at hk
    · simp [mkFI] at hk
    · simp [mkRE] at hk
  · rintro ⟨h, h16, hx⟩
    exact Or.inl ⟨_, _, _, _, _, _, h, h16, hx⟩
theorem eqH_200 (c : Ctl) (h : eqH c (mkSR 200 c.so c.ti c.st c.pa c.oc c.reps)) : c = mkSR 200 c.so c.ti c.st c.pa c.oc c.reps := by
  obtain ⟨k, so, me, ti, st, pa, oc, reps, nams, srcs, loss, firs, ra⟩ := c
  obtain ⟨h0, h1, h2, h3, h4, h5, h6, h12, h7, h8, h9, h10, h11⟩ := h
  simp only [mkSR, List.length_nil] at h0 h1 h2 h3 h4 h5 h6 h12 h7 h8 h9 h10 h11
  subst h0
  subst h2
  obtain rfl := list0 h8
  obtain rfl := list0 h9
  obtain rfl := list0 h10
  obtain rfl := list0 h11
  subst h12
  rfl
theorem mayC_201 (c : Ctl) (hk : c.k = 201) : mayC c ↔ c = mkRR 201 c.so c.reps ∧ c.reps.length ≤ 16 ∧ ∀ x ∈ c.reps, x.ok := by
  constructor
  · rintro (⟨so, ti, st, pa, oc, L, rfl, h16, hx⟩ | ⟨so, L, rfl, h16, hx⟩ | ⟨L, rfl, h16, hx⟩ | ⟨L, rfl, h16⟩ | ⟨so, me, L, rfl, h1, h16⟩ | ⟨so, me, rfl⟩ | ⟨so, L, rfl, h1, h16⟩ | ⟨so, L, ra, rfl, h16, hx⟩)
    · simp [mkSR] at hk
    · exact ⟨rfl, h16, hx⟩
    · simp [mkSD] at hk
    · simp [mkBY] at hk
    · simp [mkNA] at hk
    · simp [mkPL] at hk
    · simp [mkFI] at hk
    · simp [mkRE] at hk
  · rintro ⟨h, h16, hx⟩
    exact Or.inr (Or.inl ⟨_, _, h, h16, hx⟩)
theorem eqH_201 (c : Ctl) (h : eqH c (mkRR 201 c.so c.reps)) : c = mkRR 201 c.so c.reps := by
  obtain ⟨k, so, me, ti, st, pa, oc, reps, nams, srcs, loss, firs, ra⟩ := c
  obtain ⟨h0, h1, h2, h3, h4, h5, h6, h12, h7, h8, h9, h10, h11⟩ := h
  simp only [mkRR, List.length_nil] at h0 h1 h2 h3 h4 h5 h6 h12 h7 h8 h9 h10 h11
  subst h0
  subst h2
  subst h3
  subst h4
  subst h5
  subst h6
  obtain rfl := list0 h8
  obtain rfl := list0 h9
  obtain rfl := list0 h10
  obtain rfl := list0 h11
  subst h12
  rfl
theorem mayC_202 (c : Ctl) (hk : c.k = 202) : mayC c ↔ c = mkSD 202 c.nams ∧ c.nams.length ≤ 16 ∧ ∀ x ∈ c.nams, nameP (txt x.2) := by
  constructor
  · rintro (⟨so, ti, st, pa, oc, L, rfl, h16, hx⟩ | ⟨so, L, rfl, h16, hx⟩ | ⟨L, rfl, h16, hx⟩ | ⟨L, rfl, h16⟩ | ⟨so, me, L, rfl, h1, h16⟩ | ⟨so, me, rfl⟩ | ⟨so, L, rfl, h1, h16⟩ | ⟨so, L, ra, rfl, h16, hx⟩)
    · simp [mkSR] at hk
    · simp [mkRR] at hk
    · exact ⟨rfl, h16, hx⟩
    · simp [mkBY] at hk
    · simp [mkNA] at hk
    · simp [mkPL] at hk
    · simp [mkFI] at hk
    · simp [mkRE] at hk
  · rintro ⟨h, h16, hx⟩
    exact Or.inr (Or.inr (Or.inl ⟨_, h, h16, hx⟩))
theorem eqH_202 (c : Ctl) (h : eqH c (mkSD 202 c.nams)) : c = mkSD 202 c.nams := by
  obtain ⟨k, so, me, ti, st, pa, oc, reps, nams, srcs, loss, firs, ra⟩ := c
  obtain ⟨h0, h1, h2, h3, h4, h5, h6, h12, h7, h8, h9, h10, h11⟩ := h
  simp only [mkSD, List.length_nil] at h0 h1 h2 h3 h4 h5 h6 h12 h7 h8 h9 h10 h11
  subst h0
  subst h1
  subst h2
  subst h3
  subst h4
  subst h5
  subst h6
  obtain rfl := list0 h7
  obtain rfl := list0 h9
  obtain rfl := list0 h10
  obtain rfl := list0 h11
  subst h12
  rfl
theorem mayC_203 (c : Ctl) (hk : c.k = 203) : mayC c ↔ c = mkBY 203 c.srcs ∧ c.srcs.length ≤ 16 := by
  constructor
  · rintro (⟨so, ti, st, pa, oc, L, rfl, h16, hx⟩ | ⟨so, L, rfl, h16, hx⟩ | ⟨L, rfl, h16, hx⟩ | ⟨L, rfl, h16⟩ | ⟨so, me, L, rfl, h1, h16⟩ | ⟨so, me, rfl⟩ | ⟨so, L, rfl, h1, h16⟩ | ⟨so, L, ra, rfl, h16, hx⟩)
    · simp [mkSR] at hk
    · simp [mkRR] at hk
    · simp [mkSD] at hk
    · exact ⟨rfl, h16⟩
    · simp [mkNA] at hk
    · simp [mkPL] at hk
    · simp [mkFI] at hk
    · simp [mkRE] at hk
  · rintro ⟨h, h16⟩
    exact Or.inr (Or.inr (Or.inr (Or.inl ⟨_, h, h16⟩)))
theorem eqH_203 (c : Ctl) (h : eqH c (mkBY 203 c.srcs)) : c = mkBY 203 c.srcs := by
  obtain ⟨k, so, me, ti, st, pa, oc, reps, nams, srcs, loss, firs, ra⟩ := c
  obtain ⟨h0, h1, h2, h3, h4, h5, h6, h12, h7, h8, h9, h10, h11⟩ := h
  simp only [mkBY, List.length_nil] at h0 h1 h2 h3 h4 h5 h6 h12 h7 h8 h9 h10 h11
  subst h0
  subst h1
  subst h2
  subst h3
  subst h4
  subst h5
  subst h6
  obtain rfl := list0 h7
  obtain rfl := list0 h8
  obtain rfl := list0 h10
  obtain rfl := list0 h11
  subst h12
  rfl
theorem mayC_1 (c : Ctl) (hk : c.k = 1) : mayC c ↔ c = mkNA 1 c.so c.me c.loss ∧ 1 ≤ c.loss.length ∧ c.loss.length ≤ 16 := by
  constructor
  · rintro (⟨so, ti, st, pa, oc, L, rfl, h16, hx⟩ | ⟨so, L, rfl, h16, hx⟩ | ⟨L, rfl, h16, hx⟩ | ⟨L, rfl, h16⟩ | ⟨so, me, L, rfl, h1, h16⟩ | ⟨so, me, rfl⟩ | ⟨so, L, rfl, h1, h16⟩ | ⟨so, L, ra, rfl, h16, hx⟩)
    · simp [mkSR] at hk
    · simp [mkRR] at hk
    · simp [mkSD] at hk
    · simp [mkBY] at hk
    · exact ⟨rfl, h1, h16⟩
    · simp [mkPL] at hk
    · simp [mkFI] at hk
    · simp [mkRE] at hk
  · rintro ⟨h, h1, h16⟩
    exact Or.inr (Or.inr (Or.inr (Or.inr (Or.inl ⟨_, _, _, h, h1, h16⟩))))
theorem eqH_1 (c : Ctl) (h : eqH c (mkNA 1 c.so c.me c.loss)) : c = mkNA 1 c.so c.me c.loss := by
  obtain ⟨k, so, me, ti, st, pa, oc, reps, nams, srcs, loss, firs, ra⟩ := c
  obtain ⟨h0, h1, h2, h3, h4, h5, h6, h12, h7, h8, h9, h10, h11⟩ := h
  simp only [mkNA, List.length_nil] at h0 h1 h2 h3 h4 h5 h6 h12 h7 h8 h9 h10 h11
  subst h0
  subst h3
  subst h4
  subst h5
  subst h6
  obtain rfl := list0 h7
  obtain rfl := list0 h8
  obtain rfl := list0 h9
  obtain rfl := list0 h11
  subst h12
  rfl
theorem mayC_2 (c : Ctl) (hk : c.k = 2) : mayC c ↔ c = mkPL 2 c.so c.me ∧ True := by
  constructor
  · rintro (⟨so, ti, st, pa, oc, L, rfl, h16, hx⟩ | ⟨so, L, rfl, h16, hx⟩ | ⟨L, rfl, h16, hx⟩ | ⟨L, rfl, h16⟩ | ⟨so, me, L, rfl, h1, h16⟩ | ⟨so, me, rfl⟩ | ⟨so, L, rfl, h1, h16⟩ | ⟨so, L, ra, rfl, h16, hx⟩)
    · simp [mkSR] at hk
    · simp [mkRR] at hk
    · simp [mkSD] at hk
    · simp [mkBY] at hk
    · simp [mkNA] at hk
    · exact ⟨rfl, trivial⟩
    · simp [mkFI] at hk
    · simp [mkRE] at hk
  · rintro ⟨h, -⟩
    exact Or.inr (Or.inr (Or.inr (Or.inr (Or.inr (Or.inl ⟨_, _, h⟩)))))
theorem eqH_2 (c : Ctl) (h : eqH c (mkPL 2 c.so c.me)) : c = mkPL 2 c.so c.me := by
  obtain ⟨k, so, me, ti, st, pa, oc, reps, nams, srcs, loss, firs, ra⟩ := c
  obtain ⟨h0, h1, h2, h3, h4, h5, h6, h12, h7, h8, h9, h10, h11⟩ := h
  simp only [mkPL, List.length_nil] at h0 h1 h2 h3 h4 h5 h6 h12 h7 h8 h9 h10 h11
  subst h0
  subst h3
  subst h4
  subst h5
  subst h6
  obtain rfl := list0 h7
  obtain rfl := list0 h8
  obtain rfl := list0 h9
  obtain rfl := list0 h10
  obtain rfl := list0 h11
  subst h12
  rfl
theorem mayC_3 (c : Ctl) (hk : c.k = 3) : mayC c ↔ c = mkFI 3 c.so c.firs ∧ 1 ≤ c.firs.length ∧ c.firs.length ≤ 16 := by
  constructor
  · rintro (⟨so, ti, st, pa, oc, L, rfl, h16, hx⟩ | ⟨so, L, rfl, h16, hx⟩ | ⟨L, rfl, h16, hx⟩ | ⟨L, rfl, h16⟩ | ⟨so, me, L, rfl, h1, h16⟩ | ⟨so, me, rfl⟩ | ⟨so, L, rfl, h1, h16⟩ | ⟨so, L, ra, rfl, h16, hx⟩)
    · simp [mkSR] at hk
    · simp [mkRR] at hk
    · simp [mkSD] at hk
    · simp [mkBY] at hk
    · simp [mkNA] at hk
    · simp [mkPL] at hk
    · exact ⟨rfl, h1, h16⟩
    · simp [mkRE] at hk
  · rintro ⟨h, h1, h16⟩
    exact Or.inr (Or.inr (Or.inr (Or.inr (Or.inr (Or.inr (Or.inl ⟨_, _, h, h1, h16⟩))))))
theorem eqH_3 (c : Ctl) (h : eqH c (mkFI 3 c.so c.firs)) : c = mkFI 3 c.so c.firs := by
  obtain ⟨k, so, me, ti, st, pa, oc, reps, nams, srcs, loss, firs, ra⟩ := c
  obtain ⟨h0, h1, h2, h3, h4, h5, h6, h12, h7, h8, h9, h10, h11⟩ := h
  simp only [mkFI, List.length_nil] at h0 h1 h2 h3 h4 h5 h6 h12 h7 h8 h9 h10 h11
  subst h0
  subst h2
  subst h3
  subst h4
  subst h5
  subst h6
  obtain rfl := list0 h7
  obtain rfl := list0 h8
  obtain rfl := list0 h9
  obtain rfl := list0 h10
  subst h12
  rfl
theorem mayC_4 (c : Ctl) (hk : c.k = 4) : mayC c ↔ c = mkRE 4 c.so c.srcs c.ra ∧ c.srcs.length ≤ 16 ∧ c.ra < 9223372036854775808 ∧ rM c.ra * 2 ^ rE c.ra = c.ra := by
  constructor
  · rintro (⟨so, ti, st, pa, oc, L, rfl, h16, hx⟩ | ⟨so, L, rfl, h16, hx⟩ | ⟨L, rfl, h16, hx⟩ | ⟨L, rfl, h16⟩ | ⟨so, me, L, rfl, h1, h16⟩ | ⟨so, me, rfl⟩ | ⟨so, L, rfl, h1, h16⟩ | ⟨so, L, ra, rfl, h16, hx⟩)
    · simp [mkSR] at hk
    · simp [mkRR] at hk
    · simp [mkSD] at hk
    · simp [mkBY] at hk
    · simp [mkNA] at hk
    · simp [mkPL] at hk
    · simp [mkFI] at hk
    · exact ⟨rfl, h16, hx⟩
  · rintro ⟨h, h16, hx⟩
    exact Or.inr (Or.inr (Or.inr (Or.inr (Or.inr (Or.inr (Or.inr (⟨_, _, _, h, h16, hx⟩)))))))
theorem eqH_4 (c : Ctl) (h : eqH c (mkRE 4 c.so c.srcs c.ra)) : c = mkRE 4 c.so c.srcs c.ra := by
  obtain ⟨k, so, me, ti, st, pa, oc, reps, nams, srcs, loss, firs, ra⟩ := c
  obtain ⟨h0, h1, h2, h3, h4, h5, h6, h12, h7, h8, h9, h10, h11⟩ := h
  simp only [mkRE, List.length_nil] at h0 h1 h2 h3 h4 h5 h6 h12 h7 h8 h9 h10 h11
  subst h0
  subst h2
  subst h3
  subst h4
  subst h5
  subst h6
  obtain rfl := list0 h7
  obtain rfl := list0 h8
  obtain rfl := list0 h10
  obtain rfl := list0 h11
  rfl
set_option maxRecDepth 100000 in
set_option maxHeartbeats 1000000 in
theorem may_200_big (cs : List Value) (c : Ctl) (w : World) (h : CtRd w cs c) (hk : c.k = 200) (hn : 16 < c.reps.length) :
    Calls Tryd.prog 20 #[.agg cs.toArray] w fun r w' => r = .returned (.bool false) ∧ Below w.heap.size w w' := by
  obtain ⟨A, a, B, b', C, c', D, d, E, e, h0, r7, r8, r9, r10, r11⟩ := h
  subst h0
  unfold ctlC
  rw [hk]
  obtain ⟨n, hnn⟩ : ∃ n, n = c.reps.length := ⟨_, rfl⟩
  rw [← hnn] at hn ⊢
  clear hnn
  clear r7 r8 r9 r10 r11 hk
  go_enter Tryd.func20, Tryd.ntmps20
  go_wp2
  go_ret
  exact ⟨rfl, twoBelow _ _ _⟩
set_option maxRecDepth 100000 in
set_option maxHeartbeats 1000000 in
theorem may_200_diff (cs : List Value) (c : Ctl) (w : World) (h : CtRd w cs c) (hk : c.k = 200) (hne : ¬ c = mkSR 200 c.so c.ti c.st c.pa c.oc c.reps) (hn : c.reps.length ≤ 16) :
    Calls Tryd.prog 20 #[.agg cs.toArray] w fun r w' => r = .returned (.bool false) ∧ Below w.heap.size w w' := by
  have hCS := h
  obtain ⟨A, a, B, b', C, c', D, d, E, e, h0, r7, r8, r9, r10, r11⟩ := h
  subst h0
  unfold ctlC at hCS ⊢
  rw [hk] at hCS ⊢
  have SM : Hid (Calls Tryd.prog 26 #[.agg #[.int .i64 200, .int .u32 (c.so : Int), .int .u32 (c.me : Int), .int .u64 (c.ti : Int), .int .u32 (c.st : Int), .int .u32 (c.pa : Int), .int .u32 (c.oc : Int), .slice A c.reps.length a, .slice B c.nams.length b', .slice C c.srcs.length c', .slice D c.loss.length d, .slice E c.firs.length e, .int .u64 (c.ra : Int)], .agg #[.int .i64 200, .int .u32 (c.so : Int), .int .u32 0, .int .u64 (c.ti : Int), .int .u32 (c.st : Int), .int .u32 (c.pa : Int), .int .u32 (c.oc : Int), .slice A c.reps.length a, .slice none 0 0, .slice none 0 0, .slice none 0 0, .slice none 0 0, .int .u64 0]] ((w.alloc (.cells #[.int .i64 200, .int .u32 (c.so : Int), .int .u32 (c.me : Int), .int .u64 (c.ti : Int), .int .u32 (c.st : Int), .int .u32 (c.pa : Int), .int .u32 (c.oc : Int), .slice A c.reps.length a, .slice B c.nams.length b', .slice C c.srcs.length c', .slice D c.loss.length d, .slice E c.firs.length e, .int .u64 (c.ra : Int)] 50)).alloc (.cells #[.int .i64 200, .int .u32 (c.so : Int), .int .u32 0, .int .u64 (c.ti : Int), .int .u32 (c.st : Int), .int .u32 (c.pa : Int), .int .u32 (c.oc : Int), .slice A c.reps.length a, .slice none 0 0, .slice none 0 0, .slice none 0 0, .slice none 0 0, .int .u64 0] 50)) fun r w' => r = .returned (.bool false) ∧ Below ((w.alloc (.cells #[.int .i64 200, .int .u32 (c.so : Int), .int .u32 (c.me : Int), .int .u64 (c.ti : Int), .int .u32 (c.st : Int), .int .u32 (c.pa : Int), .int .u32 (c.oc : Int), .slice A c.reps.length a, .slice B c.nams.length b', .slice C c.srcs.length c', .slice D c.loss.length d, .slice E c.firs.length e, .int .u64 (c.ra : Int)] 50)).alloc (.cells #[.int .i64 200, .int .u32 (c.so : Int), .int .u32 0, .int .u64 (c.ti : Int), .int .u32 (c.st : Int), .int .u32 (c.pa : Int), .int .u32 (c.oc : Int), .slice A c.reps.length a, .slice none 0 0, .slice none 0 0, .slice none 0 0, .slice none 0 0, .int .u64 0] 50)).heap.size ((w.alloc (.cells #[.int .i64 200, .int .u32 (c.so : Int), .int .u32 (c.me : Int), .int .u64 (c.ti : Int), .int .u32 (c.st : Int), .int .u32 (c.pa : Int), .int .u32 (c.oc : Int), .slice A c.reps.length a, .slice B c.nams.length b', .slice C c.srcs.length c', .slice D c.loss.length d, .slice E c.firs.length e, .int .u64 (c.ra : Int)] 50)).alloc (.cells #[.int .i64 200, .int .u32 (c.so : Int), .int .u32 0, .int .u64 (c.ti : Int), .int .u32 (c.st : Int), .int .u32 (c.pa : Int), .int .u32 (c.oc : Int), .slice A c.reps.length a, .slice none 0 0, .slice none 0 0, .slice none 0 0, .slice none 0 0, .int .u64 0] 50)) w') := Lib.hid (by
    have hD : CtRd w [.int .i64 200, .int .u32 (c.so : Int), .int .u32 0, .int .u64 (c.ti : Int), .int .u32 (c.st : Int), .int .u32 (c.pa : Int), .int .u32 (c.oc : Int), .slice A c.reps.length a, .slice none 0 0, .slice none 0 0, .slice none 0 0, .slice none 0 0, .int .u64 0] (mkSR 200 c.so c.ti c.st c.pa c.oc c.reps) := ⟨A, a, none, 0, none, 0, none, 0, none, 0, rfl, r7, nilG _ _, nilG _ _, nilG _ _, nilG _ _⟩
    exact same_no [.int .i64 200, .int .u32 (c.so : Int), .int .u32 (c.me : Int), .int .u64 (c.ti : Int), .int .u32 (c.st : Int), .int .u32 (c.pa : Int), .int .u32 (c.oc : Int), .slice A c.reps.length a, .slice B c.nams.length b', .slice C c.srcs.length c', .slice D c.loss.length d, .slice E c.firs.length e, .int .u64 (c.ra : Int)] [.int .i64 200, .int .u32 (c.so : Int), .int .u32 0, .int .u64 (c.ti : Int), .int .u32 (c.st : Int), .int .u32 (c.pa : Int), .int .u32 (c.oc : Int), .slice A c.reps.length a, .slice none 0 0, .slice none 0 0, .slice none 0 0, .slice none 0 0, .int .u64 0] c (mkSR 200 c.so c.ti c.st c.pa c.oc c.reps) _ (hCS.below (twoBelow _ _ _)) (hD.below (twoBelow _ _ _)) (fun he => hne (eqH_200 c he)))
  clear hCS hne
  obtain ⟨n, hnn⟩ : ∃ n, n = c.reps.length := ⟨_, rfl⟩
  rw [← hnn] at hn SM ⊢
  clear hnn
  clear r7 r8 r9 r10 r11 hk
  go_enter Tryd.func20, Tryd.ntmps20
  go_wp2_with (first
    | (go_at_call 26; ((with_reducible refine (Hid.out SM).mono ?_); rintro r w4 ⟨rfl, hb⟩; have B4 := Lib.hid ((twoBelow w _ _).trans (hb.mono (twoBelow w _ _).size)); clear hb)))
  go_ret
  exact ⟨rfl, B4.out⟩
set_option maxRecDepth 100000 in
set_option maxHeartbeats 1000000 in
theorem may_201_big (cs : List Value) (c : Ctl) (w : World) (h : CtRd w cs c) (hk : c.k = 201) (hn : 16 < c.reps.length) :
    Calls Tryd.prog 20 #[.agg cs.toArray] w fun r w' => r = .returned (.bool false) ∧ Below w.heap.size w w' := by
  obtain ⟨A, a, B, b', C, c', D, d, E, e, h0, r7, r8, r9, r10, r11⟩ := h
  subst h0
  unfold ctlC
  rw [hk]
  obtain ⟨n, hnn⟩ : ∃ n, n = c.reps.length := ⟨_, rfl⟩
  rw [← hnn] at hn ⊢
  clear hnn
  clear r7 r8 r9 r10 r11 hk
  go_enter Tryd.func20, Tryd.ntmps20
  go_wp2
  go_ret
  exact ⟨rfl, twoBelow _ _ _⟩
set_option maxRecDepth 100000 in
set_option maxHeartbeats 1000000 in
theorem may_201_diff (cs : List Value) (c : Ctl) (w : World) (h : CtRd w cs c) (hk : c.k = 201) (hne : ¬ c = mkRR 201 c.so c.reps) (hn : c.reps.length ≤ 16) :
    Calls Tryd.prog 20 #[.agg cs.toArray] w fun r w' => r = .returned (.bool false) ∧ Below w.heap.size w w' := by
  have hCS := h
  obtain ⟨A, a, B, b', C, c', D, d, E, e, h0, r7, r8, r9, r10, r11⟩ := h
  subst h0
  unfold ctlC at hCS ⊢
  rw [hk] at hCS ⊢
  have SM : Hid (Calls Tryd.prog 26 #[.agg #[.int .i64 201, .int .u32 (c.so : Int), .int .u32 (c.me : Int), .int .u64 (c.ti : Int), .int .u32 (c.st : Int), .int .u32 (c.pa : Int), .int .u32 (c.oc : Int), .slice A c.reps.length a, .slice B c.nams.length b', .slice C c.srcs.length c', .slice D c.loss.length d, .slice E c.firs.length e, .int .u64 (c.ra : Int)], .agg #[.int .i64 201, .int .u32 (c.so : Int), .int .u32 0, .int .u64 0, .int .u32 0, .int .u32 0, .int .u32 0, .slice A c.reps.length a, .slice none 0 0, .slice none 0 0, .slice none 0 0, .slice none 0 0, .int .u64 0]] ((w.alloc (.cells #[.int .i64 201, .int .u32 (c.so : Int), .int .u32 (c.me : Int), .int .u64 (c.ti : Int), .int .u32 (c.st : Int), .int .u32 (c.pa : Int), .int .u32 (c.oc : Int), .slice A c.reps.length a, .slice B c.nams.length b', .slice C c.srcs.length c', .slice D c.loss.length d, .slice E c.firs.length e, .int .u64 (c.ra : Int)] 50)).alloc (.cells #[.int .i64 201, .int .u32 (c.so : Int), .int .u32 0, .int .u64 0, .int .u32 0, .int .u32 0, .int .u32 0, .slice A c.reps.length a, .slice none 0 0, .slice none 0 0, .slice none 0 0, .slice none 0 0, .int .u64 0] 50)) fun r w' => r = .returned (.bool false) ∧ Below ((w.alloc (.cells #[.int .i64 201, .int .u32 (c.so : Int), .int .u32 (c.me : Int), .int .u64 (c.ti : Int), .int .u32 (c.st : Int), .int .u32 (c.pa : Int), .int .u32 (c.oc : Int), .slice A c.reps.length a, .slice B c.nams.length b', .slice C c.srcs.length c', .slice D c.loss.length d, .slice E c.firs.length e, .int .u64 (c.ra : Int)] 50)).alloc (.cells #[.int .i64 201, .int .u32 (c.so : Int), .int .u32 0, .int .u64 0, .int .u32 0, .int .u32 0, .int .u32 0, .slice A c.reps.length a, .slice none 0 0, .slice none 0 0, .slice none 0 0, .slice none 0 0, .int .u64 0] 50)).heap.size ((w.alloc (.cells #[.int .i64 201, .int .u32 (c.so : Int), .int .u32 (c.me : Int), .int .u64 (c.ti : Int), .int .u32 (c.st : Int), .int .u32 (c.pa : Int), .int .u32 (c.oc : Int), .slice A c.reps.length a, .slice B c.nams.length b', .slice C c.srcs.length c', .slice D c.loss.length d, .slice E c.firs.length e, .int .u64 (c.ra : Int)] 50)).alloc (.cells #[.int .i64 201, .int .u32 (c.so : Int), .int .u32 0, .int .u64 0, .int .u32 0, .int .u32 0, .int .u32 0, .slice A c.reps.length a, .slice none 0 0, .slice none 0 0, .slice none 0 0, .slice none 0 0, .int .u64 0] 50)) w') := Lib.hid (by
    have hD : CtRd w [.int .i64 201, .int .u32 (c.so : Int), .int .u32 0, .int .u64 0, .int .u32 0, .int .u32 0, .int .u32 0, .slice A c.reps.length a, .slice none 0 0, .slice none 0 0, .slice none 0 0, .slice none 0 0, .int .u64 0] (mkRR 201 c.so c.reps) := ⟨A, a, none, 0, none, 0, none, 0, none, 0, rfl, r7, nilG _ _, nilG _ _, nilG _ _, nilG _ _⟩
    exact same_no [.int .i64 201, .int .u32 (c.so : Int), .int .u32 (c.me : Int), .int .u64 (c.ti : Int), .int .u32 (c.st : Int), .int .u32 (c.pa : Int), .int .u32 (c.oc : Int), .slice A c.reps.length a, .slice B c.nams.length b', .slice C c.srcs.length c', .slice D c.loss.length d, .slice E c.firs.length e, .int .u64 (c.ra : Int)] [.int .i64 201, .int .u32 (c.so : Int), .int .u32 0, .int .u64 0, .int .u32 0, .int .u32 0, .int .u32 0, .slice A c.reps.length a, .slice none 0 0, .slice none 0 0, .slice none 0 0, .slice none 0 0, .int .u64 0] c (mkRR 201 c.so c.reps) _ (hCS.below (twoBelow _ _ _)) (hD.below (twoBelow _ _ _)) (fun he => hne (eqH_201 c he)))
  clear hCS hne
  obtain ⟨n, hnn⟩ : ∃ n, n = c.reps.length := ⟨_, rfl⟩
  rw [← hnn] at hn SM ⊢
  clear hnn
  clear r7 r8 r9 r10 r11 hk
  go_enter Tryd.func20, Tryd.ntmps20
  go_wp2_with (first
    | (go_at_call 26; ((with_reducible refine (Hid.out SM).mono ?_); rintro r w4 ⟨rfl, hb⟩; have B4 := Lib.hid ((twoBelow w _ _).trans (hb.mono (twoBelow w _ _).size)); clear hb)))
  go_ret
  exact ⟨rfl, B4.out⟩
set_option maxRecDepth 100000 in
set_option maxHeartbeats 1000000 in
theorem may_202_big (cs : List Value) (c : Ctl) (w : World) (h : CtRd w cs c) (hk : c.k = 202) (hn : 16 < c.nams.length) :
    Calls Tryd.prog 20 #[.agg cs.toArray] w fun r w' => r = .returned (.bool false) ∧ Below w.heap.size w w' := by
  obtain ⟨A, a, B, b', C, c', D, d, E, e, h0, r7, r8, r9, r10, r11⟩ := h
  subst h0
  unfold ctlC
  rw [hk]
  obtain ⟨n, hnn⟩ : ∃ n, n = c.nams.length := ⟨_, rfl⟩
  rw [← hnn] at hn ⊢
  clear hnn
  clear r7 r8 r9 r10 r11 hk
  go_enter Tryd.func20, Tryd.ntmps20
  go_wp2
  go_ret
  exact ⟨rfl, twoBelow _ _ _⟩
set_option maxRecDepth 100000 in
set_option maxHeartbeats 1000000 in
theorem may_202_diff (cs : List Value) (c : Ctl) (w : World) (h : CtRd w cs c) (hk : c.k = 202) (hne : ¬ c = mkSD 202 c.nams) (hn : c.nams.length ≤ 16) :
    Calls Tryd.prog 20 #[.agg cs.toArray] w fun r w' => r = .returned (.bool false) ∧ Below w.heap.size w w' := by
  have hCS := h
  obtain ⟨A, a, B, b', C, c', D, d, E, e, h0, r7, r8, r9, r10, r11⟩ := h
  subst h0
  unfold ctlC at hCS ⊢
  rw [hk] at hCS ⊢
  have SM : Hid (Calls Tryd.prog 26 #[.agg #[.int .i64 202, .int .u32 (c.so : Int), .int .u32 (c.me : Int), .int .u64 (c.ti : Int), .int .u32 (c.st : Int), .int .u32 (c.pa : Int), .int .u32 (c.oc : Int), .slice A c.reps.length a, .slice B c.nams.length b', .slice C c.srcs.length c', .slice D c.loss.length d, .slice E c.firs.length e, .int .u64 (c.ra : Int)], .agg #[.int .i64 202, .int .u32 0, .int .u32 0, .int .u64 0, .int .u32 0, .int .u32 0, .int .u32 0, .slice none 0 0, .slice B c.nams.length b', .slice none 0 0, .slice none 0 0, .slice none 0 0, .int .u64 0]] ((w.alloc (.cells #[.int .i64 202, .int .u32 (c.so : Int), .int .u32 (c.me : Int), .int .u64 (c.ti : Int), .int .u32 (c.st : Int), .int .u32 (c.pa : Int), .int .u32 (c.oc : Int), .slice A c.reps.length a, .slice B c.nams.length b', .slice C c.srcs.length c', .slice D c.loss.length d, .slice E c.firs.length e, .int .u64 (c.ra : Int)] 50)).alloc (.cells #[.int .i64 202, .int .u32 0, .int .u32 0, .int .u64 0, .int .u32 0, .int .u32 0, .int .u32 0, .slice none 0 0, .slice B c.nams.length b', .slice none 0 0, .slice none 0 0, .slice none 0 0, .int .u64 0] 50)) fun r w' => r = .returned (.bool false) ∧ Below ((w.alloc (.cells #[.int .i64 202, .int .u32 (c.so : Int), .int .u32 (c.me : Int), .int .u64 (c.ti : Int), .int .u32 (c.st : Int), .int .u32 (c.pa : Int), .int .u32 (c.oc : Int), .slice A c.reps.length a, .slice B c.nams.length b', .slice C c.srcs.length c', .slice D c.loss.length d, .slice E c.firs.length e, .int .u64 (c.ra : Int)] 50)).alloc (.cells #[.int .i64 202, .int .u32 0, .int .u32 0, .int .u64 0, .int .u32 0, .int .u32 0, .int .u32 0, .slice none 0 0, .slice B c.nams.length b', .slice none 0 0, .slice none 0 0, .slice none 0 0, .int .u64 0] 50)).heap.size ((w.alloc (.cells #[.int .i64 202, .int .u32 (c.so : Int), .int .u32 (c.me : Int), .int .u64 (c.ti : Int), .int .u32 (c.st : Int), .int .u32 (c.pa : Int), .int .u32 (c.oc : Int), .slice A c.reps.length a, .slice B c.nams.length b', .slice C c.srcs.length c', .slice D c.loss.length d, .slice E c.firs.length e, .int .u64 (c.ra : Int)] 50)).alloc (.cells #[.int .i64 202, .int .u32 0, .int .u32 0, .int .u64 0, .int .u32 0, .int .u32 0, .int .u32 0, .slice none 0 0, .slice B c.nams.length b', .slice none 0 0, .slice none 0 0, .slice none 0 0, .int .u64 0] 50)) w') := Lib.hid (by
    have hD : CtRd w [.int .i64 202, .int .u32 0, .int .u32 0, .int .u64 0, .int .u32 0, .int .u32 0, .int .u32 0, .slice none 0 0, .slice B c.nams.length b', .slice none 0 0, .slice none 0 0, .slice none 0 0, .int .u64 0] (mkSD 202 c.nams) := ⟨none, 0, B, b', none, 0, none, 0, none, 0, rfl, nilG _ _, r8, nilG _ _, nilG _ _, nilG _ _⟩
    exact same_no [.int .i64 202, .int .u32 (c.so : Int), .int .u32 (c.me : Int), .int .u64 (c.ti : Int), .int .u32 (c.st : Int), .int .u32 (c.pa : Int), .int .u32 (c.oc : Int), .slice A c.reps.length a, .slice B c.nams.length b', .slice C c.srcs.length c', .slice D c.loss.length d, .slice E c.firs.length e, .int .u64 (c.ra : Int)] [.int .i64 202, .int .u32 0, .int .u32 0, .int .u64 0, .int .u32 0, .int .u32 0, .int .u32 0, .slice none 0 0, .slice B c.nams.length b', .slice none 0 0, .slice none 0 0, .slice none 0 0, .int .u64 0] c (mkSD 202 c.nams) _ (hCS.below (twoBelow _ _ _)) (hD.below (twoBelow _ _ _)) (fun he => hne (eqH_202 c he)))
  clear hCS hne
  obtain ⟨n, hnn⟩ : ∃ n, n = c.nams.length := ⟨_, rfl⟩
  rw [← hnn] at hn SM ⊢
  clear hnn
  clear r7 r8 r9 r10 r11 hk
  go_enter Tryd.func20, Tryd.ntmps20
  go_wp2_with (first
    | (go_at_call 26; ((with_reducible refine (Hid.out SM).mono ?_); rintro r w4 ⟨rfl, hb⟩; have B4 := Lib.hid ((twoBelow w _ _).trans (hb.mono (twoBelow w _ _).size)); clear hb)))
  go_ret
  exact ⟨rfl, B4.out⟩
set_option maxRecDepth 100000 in
set_option maxHeartbeats 1000000 in
theorem may_203_big (cs : List Value) (c : Ctl) (w : World) (h : CtRd w cs c) (hk : c.k = 203) (hn : 16 < c.srcs.length) :
    Calls Tryd.prog 20 #[.agg cs.toArray] w fun r w' => r = .returned (.bool false) ∧ Below w.heap.size w w' := by
  obtain ⟨A, a, B, b', C, c', D, d, E, e, h0, r7, r8, r9, r10, r11⟩ := h
  subst h0
  unfold ctlC
  rw [hk]
  obtain ⟨n, hnn⟩ : ∃ n, n = c.srcs.length := ⟨_, rfl⟩
  rw [← hnn] at hn ⊢
  clear hnn
  clear r7 r8 r9 r10 r11 hk
  go_enter Tryd.func20, Tryd.ntmps20
  go_wp2
  go_ret
  exact ⟨rfl, twoBelow _ _ _⟩
set_option maxRecDepth 100000 in
set_option maxHeartbeats 1000000 in
theorem may_203_diff (cs : List Value) (c : Ctl) (w : World) (h : CtRd w cs c) (hk : c.k = 203) (hne : ¬ c = mkBY 203 c.srcs) (hn : c.srcs.length ≤ 16) :
    Calls Tryd.prog 20 #[.agg cs.toArray] w fun r w' => r = .returned (.bool false) ∧ Below w.heap.size w w' := by
  have hCS := h
  obtain ⟨A, a, B, b', C, c', D, d, E, e, h0, r7, r8, r9, r10, r11⟩ := h
  subst h0
  unfold ctlC at hCS ⊢
  rw [hk] at hCS ⊢
  have SM : Hid (Calls Tryd.prog 26 #[.agg #[.int .i64 203, .int .u32 (c.so : Int), .int .u32 (c.me : Int), .int .u64 (c.ti : Int), .int .u32 (c.st : Int), .int .u32 (c.pa : Int), .int .u32 (c.oc : Int), .slice A c.reps.length a, .slice B c.nams.length b', .slice C c.srcs.length c', .slice D c.loss.length d, .slice E c.firs.length e, .int .u64 (c.ra : Int)], .agg #[.int .i64 203, .int .u32 0, .int .u32 0, .int .u64 0, .int .u32 0, .int .u32 0, .int .u32 0, .slice none 0 0, .slice none 0 0, .slice C c.srcs.length c', .slice none 0 0, .slice none 0 0, .int .u64 0]] ((w.alloc (.cells #[.int .i64 203, .int .u32 (c.so : Int), .int .u32 (c.me : Int), .int .u64 (c.ti : Int), .int .u32 (c.st : Int), .int .u32 (c.pa : Int), .int .u32 (c.oc : Int), .slice A c.reps.length a, .slice B c.nams.length b', .slice C c.srcs.length c', .slice D c.loss.length d, .slice E c.firs.length e, .int .u64 (c.ra : Int)] 50)).alloc (.cells #[.int .i64 203, .int .u32 0, .int .u32 0, .int .u64 0, .int .u32 0, .int .u32 0, .int .u32 0, .slice none 0 0, .slice none 0 0, .slice C c.srcs.length c', .slice none 0 0, .slice none 0 0, .int .u64 0] 50)) fun r w' => r = .returned (.bool false) ∧ Below ((w.alloc (.cells #[.int .i64 203, .int .u32 (c.so : Int), .int .u32 (c.me : Int), .int .u64 (c.ti : Int), .int .u32 (c.st : Int), .int .u32 (c.pa : Int), .int .u32 (c.oc : Int), .slice A c.reps.length a, .slice B c.nams.length b', .slice C c.srcs.length c', .slice D c.loss.length d, .slice E c.firs.length e, .int .u64 (c.ra : Int)] 50)).alloc (.cells #[.int .i64 203, .int .u32 0, .int .u32 0, .int .u64 0, .int .u32 0, .int .u32 0, .int .u32 0, .slice none 0 0, .slice none 0 0, .slice C c.srcs.length c', .slice none 0 0, .slice none 0 0, .int .u64 0] 50)).heap.size ((w.alloc (.cells #[.int .i64 203, .int .u32 (c.so : Int), .int .u32 (c.me : Int), .int .u64 (c.ti : Int), .int .u32 (c.st : Int), .int .u32 (c.pa : Int), .int .u32 (c.oc : Int), .slice A c.reps.length a, .slice B c.nams.length b', .slice C c.srcs.length c', .slice D c.loss.length d, .slice E c.firs.length e, .int .u64 (c.ra : Int)] 50)).alloc (.cells #[.int .i64 203, .int .u32 0, .int .u32 0, .int .u64 0, .int .u32 0, .int .u32 0, .int .u32 0, .slice none 0 0, .slice none 0 0, .slice C c.srcs.length c', .slice none 0 0, .slice none 0 0, .int .u64 0] 50)) w') := Lib.hid (by
    have hD : CtRd w [.int .i64 203, .int .u32 0, .int .u32 0, .int .u64 0, .int .u32 0, .int .u32 0, .int .u32 0, .slice none 0 0, .slice none 0 0, .slice C c.srcs.length c', .slice none 0 0, .slice none 0 0, .int .u64 0] (mkBY 203 c.srcs) := ⟨none, 0, none, 0, C, c', none, 0, none, 0, rfl, nilG _ _, nilG _ _, r9, nilG _ _, nilG _ _⟩
    exact same_no [.int .i64 203, .int .u32 (c.so : Int), .int .u32 (c.me : Int), .int .u64 (c.ti : Int), .int .u32 (c.st : Int), .int .u32 (c.pa : Int), .int .u32 (c.oc : Int), .slice A c.reps.length a, .slice B c.nams.length b', .slice C c.srcs.length c', .slice D c.loss.length d, .slice E c.firs.length e, .int .u64 (c.ra : Int)] [.int .i64 203, .int .u32 0, .int .u32 0, .int .u64 0, .int .u32 0, .int .u32 0, .int .u32 0, .slice none 0 0, .slice none 0 0, .slice C c.srcs.length c', .slice none 0 0, .slice none 0 0, .int .u64 0] c (mkBY 203 c.srcs) _ (hCS.below (twoBelow _ _ _)) (hD.below (twoBelow _ _ _)) (fun he => hne (eqH_203 c he)))
  clear hCS hne
  obtain ⟨n, hnn⟩ : ∃ n, n = c.srcs.length := ⟨_, rfl⟩
  rw [← hnn] at hn SM ⊢
  clear hnn
  clear r7 r8 r9 r10 r11 hk
  go_enter Tryd.func20, Tryd.ntmps20
  go_wp2_with (first
    | (go_at_call 26; ((with_reducible refine (Hid.out SM).mono ?_); rintro r w4 ⟨rfl, hb⟩; have B4 := Lib.hid ((twoBelow w _ _).trans (hb.mono (twoBelow w _ _).size)); clear hb)))
  go_ret
  exact ⟨rfl, B4.out⟩
end Go.Proofs.YtacaempcbdekaaaDoor
