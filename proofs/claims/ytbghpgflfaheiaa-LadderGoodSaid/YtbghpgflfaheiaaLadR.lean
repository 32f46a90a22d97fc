/- What the document's answers for layer 21 (tenailleref21) answer: contracts. No statement is proved here. -/
import Derived.Test.YtbghpgflfaheiaaProg
import Derived.Test.YtbghpgflfaheiaaLadNum
import Derived.Test.YtbghpgflfaheiaaOnK
import Derived.WalkKit
import Derived.KernelRfl
import Derived.IntWalk
import Derived.LoopTactic
import Derived.Lib.Hide
import Derived.OpenShut
import Derived.BigQuiet
namespace Go.Proofs.Ytbghpgflfaheiaa
open Go.RowKit
set_option linter.unusedVariables false

def Ldr.cells (s : Ldr) : List Value := [.int .i64 s.S, .int .i64 s.H, .int .i64 s.D, .int .i64 s.k, .int .i64 s.l, .bool s.sh]
/-- Block g is the document's ladder. -/
def RLad (w : World) (g : Nat) (s : Ldr) : Prop := BlkV w g 37 s.cells
section
variable {w w' : World} {g : Nat} {s : Ldr}
theorem RLad.lt (h : RLad w g s) : g < w.heap.size := BlkV.lt h
theorem RLad.drewN (h : RLad w g s) (n : Nat) : RLad (w.drewN n) g s := h
theorem RLad.c0 (h : RLad w g s) : w.cell? ⟨g, 0, none⟩ = some (.int .i64 s.S) := (BlkV.cell h 0).trans rfl
theorem RLad.c1 (h : RLad w g s) : w.cell? ⟨g, 1, none⟩ = some (.int .i64 s.H) := (BlkV.cell h 1).trans rfl
theorem RLad.c2 (h : RLad w g s) : w.cell? ⟨g, 2, none⟩ = some (.int .i64 s.D) := (BlkV.cell h 2).trans rfl
theorem RLad.c3 (h : RLad w g s) : w.cell? ⟨g, 3, none⟩ = some (.int .i64 s.k) := (BlkV.cell h 3).trans rfl
theorem RLad.c4 (h : RLad w g s) : w.cell? ⟨g, 4, none⟩ = some (.int .i64 s.l) := (BlkV.cell h 4).trans rfl
theorem RLad.c5 (h : RLad w g s) : w.cell? ⟨g, 5, none⟩ = some (.bool s.sh) := (BlkV.cell h 5).trans rfl
theorem RLad.fr (h : RLad w g s) (j : Nat) : w.frozen? ⟨g, j, none⟩ = false := BlkV.frozen h j
end

theorem rmay_yes21 (S H D : Int) (w : World) (h : mayR S H D) :
    Calls Try.prog 9 #[.agg #[.int .i64 S, .int .i64 H, .int .i64 D]] w fun e w' => e = .returned (.bool true) ∧ Below w.heap.size w w' := by
  obtain ⟨h1, h2, h3, h4⟩ := h
  go_enter Try.func9, Try.ntmps9
  go_wp2
  go_ret
  exact ⟨rfl, (Below.refl _ _).alloc (Nat.le_refl _) _⟩
theorem rmay_no21 (S H D : Int) (w : World) (h : ¬ mayR S H D) :
    Calls Try.prog 9 #[.agg #[.int .i64 S, .int .i64 H, .int .i64 D]] w fun e w' => e = .returned (.bool false) ∧ Below w.heap.size w w' := by
  by_cases h1 : S < 1
  · clear h
    go_enter Try.func9, Try.ntmps9
    go_wp2
    go_ret
    exact ⟨rfl, (Below.refl _ _).alloc (Nat.le_refl _) _⟩
  have h1' : 1 ≤ S := by omega
  by_cases h2 : H ≤ S
  · clear h h1
    go_enter Try.func9, Try.ntmps9
    go_wp2
    go_ret
    exact ⟨rfl, (Below.refl _ _).alloc (Nat.le_refl _) _⟩
  have h2' : S < H := by omega
  by_cases h3 : 1000 < H
  · clear h h1 h2
    go_enter Try.func9, Try.ntmps9
    go_wp2
    go_ret
    exact ⟨rfl, (Below.refl _ _).alloc (Nat.le_refl _) _⟩
  have h3' : H ≤ 1000 := by omega
  have h4 : D < 1 := by
    by_cases h4 : D < 1
    · exact h4
    · exact absurd ⟨h1', h2', h3', by omega⟩ h
  have hd : decide (1 ≤ D) = false := by simp; omega
  clear h h1 h2 h3
  go_enter Try.func9, Try.ntmps9
  go_wp2
  go_ret
  exact ⟨rfl, (Below.refl _ _).alloc (Nat.le_refl _) _⟩

theorem zeroLadR (w : World) : (zeroValue 37).run Try.prog w = .ok (.agg #[.int .i64 0, .int .i64 0, .int .i64 0, .int .i64 0, .int .i64 0, .bool false]) w := by kernel_rfl
theorem rnew_any21 (S H D : Int) (w : World) :
    Calls Try.prog 10 #[.agg #[.int .i64 S, .int .i64 H, .int .i64 D]] w fun e w' => ∃ g, e = .returned (.pointer (some ⟨g, 0, none⟩)) ∧ Hid (w.heap.size ≤ g ∧ RLad w' g (newR S H D) ∧ Below w.heap.size w w') := by
  have hz := zeroLadR
  go_enter Try.func10, Try.ntmps10
  go_wp2
  go_ret
  exact ⟨w.heap.size + 1, by simp, Lib.hid ⟨by omega, by
    have e : (w.alloc (.cells #[.int .i64 S, .int .i64 H, .int .i64 D] 23)).heap.size = w.heap.size + 1 := by simp
    unfold RLad
    rw [← e]
    exact BlkV.new _ _ (newR S H D).cells, ((Below.refl _ _).alloc (Nat.le_refl _) _).alloc (by simp) _⟩⟩

theorem rstate_any21 (g : Nat) (s : Ldr) (w : World) (h : RLad w g s) :
    Calls Try.prog 19 #[.pointer (some ⟨g, 0, none⟩)] w fun e w' => e = .returned (.int .i64 (staR s)) ∧ ∃ m, w' = w.drewN m := by
  have c0 := h.c0
  have c3 := h.c3
  have c5 := h.c5
  clear h
  obtain ⟨S, H, D, k, l, sh⟩ := s
  simp only at c0 c3 c5
  unfold staR
  cases sh
  · simp only [Bool.false_eq_true, if_false]
    by_cases hk : S ≤ k
    · rw [if_pos hk]
      go_enter Try.func19, Try.ntmps19
      go_wp2
      go_quiet (fail)
      go_wp2
      go_ret
      exact ⟨rfl, _, rfl⟩
    · rw [if_neg hk]
      have hk' : k < S := by omega
      go_enter Try.func19, Try.ntmps19
      go_wp2
      go_quiet (fail)
      go_wp2
      go_ret
      exact ⟨rfl, _, rfl⟩
  · simp only [if_true]
    go_enter Try.func19, Try.ntmps19
    go_wp2
    go_ret
    exact ⟨rfl, 0, rfl⟩

theorem rtick_any21 (g : Nat) (s : Ldr) (w : World) (h : RLad w g s) (ok : OkR s) :
    Calls Try.prog 17 #[.pointer (some ⟨g, 0, none⟩)] w fun e w' => e = .returned (.tuple #[]) ∧ RLad w' g (tikR s) ∧ Only g w w' := by
  have c2 := h.c2
  have c3 := h.c3
  have c4 := h.c4
  have c5 := h.c5
  have f3 := h.fr 3
  have f4 := h.fr 4
  have l0 := ok.l0
  have l1 := ok.l1
  have k0 := ok.k0
  have k1 := ok.k1
  have hD := ok.D
  have HH := Lib.hid h
  clear h ok
  obtain ⟨S, H, D, k, l, sh⟩ := s
  simp only at c2 c3 c4 c5 l0 l1 k0 k1 hD
  unfold tikR
  cases sh
  · simp only [Bool.false_eq_true, if_false]
    by_cases hl : l = 1
    · subst hl
      simp only [if_true]
      by_cases hk : 0 < k
      · rw [if_pos hk]
        go_enter Try.func17, Try.ntmps17
        go_wp2
        go_end0
        exact ⟨rfl, BlkV.set_ (BlkV.set_ (BlkV.set_ HH.out 4 _) 3 _) 4 _, (((Only.refl g w).trans (Only.set _ _ _ _)).trans (Only.set _ _ _ _)).trans (Only.set _ _ _ _)⟩
      · rw [if_neg hk]
        have hk' : k = 0 := by omega
        subst hk'
        go_enter Try.func17, Try.ntmps17
        go_wp2
        go_end0
        exact ⟨rfl, BlkV.set_ (BlkV.set_ HH.out 4 _) 4 _, ((Only.refl g w).trans (Only.set _ _ _ _)).trans (Only.set _ _ _ _)⟩
    · rw [if_neg hl]
      have hlb : ((l - 1 : Int) == 0) = false := by simp; omega
      go_enter Try.func17, Try.ntmps17
      go_wp2
      go_end0
      exact ⟨rfl, BlkV.set_ HH.out 4 _, (Only.refl g w).trans (Only.set _ _ _ _)⟩
  · simp only [if_true]
    go_enter Try.func17, Try.ntmps17
    go_wp2
    exact bodyPost_ret (results_none rfl _ _ _) rfl ⟨rfl, HH.out, Only.refl _ _⟩
theorem addR_step {k n j : Int} (h : k + j ≤ 1000) (hj : j ≤ n) (he : j = n ∨ k + j = 1000) : addR k n = k + j := by unfold addR; split <;> omega

set_option maxRecDepth 100000 in
theorem rstrike_any21 (g : Nat) (s : Ldr) (n : Int) (w : World) (h : RLad w g s) (ok : OkR s) (hn : -9223372036854775808 ≤ n ∧ n ≤ 9223372036854775807) :
    Calls Try.prog 14 #[.pointer (some ⟨g, 0, none⟩), .int .i64 n] w fun e w' => e = .returned (.tuple #[]) ∧ RLad w' g (strR s n) ∧ Only g w w' := by
  unfold strR
  by_cases h1 : n < 1
  · rw [if_pos h1]
    have HH := Lib.hid h
    clear h ok
    go_enter Try.func14, Try.ntmps14
    go_wp2
    exact bodyPost_ret (results_none rfl _ _ _) rfl ⟨rfl, HH.out, Only.refl _ _⟩
  · rw [if_neg h1]
    have h1' : 1 ≤ n := by omega
    have k0 := ok.k0
    have k1 := ok.k1
    have HH := Lib.hid h
    clear h ok h1
    obtain ⟨S, H, D, k, l, sh⟩ := s
    simp only at k0 k1
    go_enter Try.func14, Try.ntmps14
    go_wp2
    go_loopw [4] (fun vj wr => ∃ j : Nat, (j : Int) ≤ n ∧ k + j ≤ 1000 ∧ vj = .int .i64 j ∧ Hid (RLad wr g ⟨S, H, D, k + j, l, sh⟩ ∧ Only g w wr)) (fun j _ => 1001 - (intOf j).toNat)
    case atStart => exact ⟨0, by omega, by omega, rfl, Lib.hid ⟨by rw [show k + ((0 : Nat) : Int) = k by omega]; exact HH.out, Only.refl _ _⟩⟩
    case round =>
      clear HH
      obtain ⟨j, hj, hkj, rfl, HR⟩ := hrel
      have c3 := HR.out.1.c3
      have f3 := HR.out.1.fr 3
      obtain ⟨y, hy⟩ : ∃ y, y = k + (j : Int) := ⟨_, rfl⟩
      simp only at c3
      rw [← hy] at c3 hkj
      have hy0 : 0 ≤ y := by omega
      have HY := Lib.hid hy
      by_cases hjn : (j : Int) < n
      · by_cases hy1 : y < 1000
        · have HN : Hid (RLad (wr.setCell ⟨g, 3, none⟩ (.int .i64 (y + 1))) g ⟨S, H, D, k + ((j + 1 : Nat) : Int), l, sh⟩ ∧ Only g w (wr.setCell ⟨g, 3, none⟩ (.int .i64 (y + 1)))) := Lib.hid ⟨by
            rw [show k + ((j + 1 : Nat) : Int) = y + 1 by omega]
            exact BlkV.set_ HR.out.1 3 _, HR.out.2.trans (Only.set _ _ _ _)⟩
          have hjk : k + ((j + 1 : Nat) : Int) ≤ 1000 := by omega
          have hjm : j < 1001 := by omega
          clear hy HR
          go_wp2
          go_roundw
          case rel => exact ⟨j + 1, by omega, hjk, by go_num, HN⟩
          case measure => simp [intOf]; omega
        · have hy2 : y = 1000 := by omega
          have HA : Hid (addR k n = 1000) := Lib.hid (by rw [addR_step (j := (j : Int)) (by omega) hj (.inr (by omega))]; omega)
          have c2 := HR.out.1.c2
          have c1 := HR.out.1.c1
          have f4 := HR.out.1.fr 4
          have f2 := HR.out.1.fr 2
          have f5 := HR.out.1.fr 5
          have c4 := HR.out.1.c4
          have c5 := HR.out.1.c5
          simp only at c1 c2 c4 c5
          subst hy2
          have HR2 : Hid (RLad wr g ⟨S, H, D, 1000, l, sh⟩ ∧ Only g w wr) := Lib.hid (by have := HR.out; rw [← HY.out] at this; exact this)
          clear hy HR
          by_cases hH : H ≤ 1000
          · have hHb : decide (H ≤ 1000) = true := by simp; omega
            go_wp2
            go_quiet (fail)
            go_wp2
            go_end0
            exact ⟨rfl, by rw [HA.out, hHb, Bool.or_true]; exact BlkV.set_ (BlkV.set_ HR2.out.1 4 _) 5 _, HR2.out.2.trans ((Only.set _ _ _ _).trans (Only.trans (w' := (wr.setCell ⟨g, 4, none⟩ (.int .i64 D)).drewN nq) ⟨rfl, rfl, rfl, rfl, fun _ _ => rfl⟩ (Only.set _ _ _ _)))⟩
          · have hHb : decide (H ≤ 1000) = false := by simp; omega
            have hH' : 1000 < H := by omega
            go_wp2
            go_quiet (fail)
            go_wp2
            go_end0
            exact ⟨rfl, by rw [HA.out, hHb, Bool.or_false]; exact BlkV.set_ HR2.out.1 4 _, HR2.out.2.trans ((Only.set _ _ _ _).trans ⟨rfl, rfl, rfl, rfl, fun _ _ => rfl⟩)⟩
      · have hjn2 : (j : Int) = n := by omega
        have HA : Hid (addR k n = y) := Lib.hid (by rw [addR_step (j := (j : Int)) (by omega) hj (.inl hjn2)]; omega)
        have c2 := HR.out.1.c2
        have c1 := HR.out.1.c1
        have f4 := HR.out.1.fr 4
        have f5 := HR.out.1.fr 5
        have c4 := HR.out.1.c4
        have c5 := HR.out.1.c5
        simp only at c1 c2 c4 c5
        have hjn3 : n ≤ (j : Int) := by omega
        have HR2 : Hid (RLad wr g ⟨S, H, D, y, l, sh⟩ ∧ Only g w wr) := Lib.hid (by have := HR.out; rw [← HY.out] at this; exact this)
        clear hy HR hjn2 hjn
        by_cases hH : H ≤ y
        · have hHb : decide (H ≤ y) = true := by simp; omega
          go_wp2
          go_quiet (fail)
          go_wp2
          go_end0
          exact ⟨rfl, by rw [HA.out, hHb, Bool.or_true]; exact BlkV.set_ (BlkV.set_ HR2.out.1 4 _) 5 _, HR2.out.2.trans ((Only.set _ _ _ _).trans (Only.trans (w' := (wr.setCell ⟨g, 4, none⟩ (.int .i64 D)).drewN nq) ⟨rfl, rfl, rfl, rfl, fun _ _ => rfl⟩ (Only.set _ _ _ _)))⟩
        · have hHb : decide (H ≤ y) = false := by simp; omega
          have hH' : y < H := by omega
          go_wp2
          go_quiet (fail)
          go_wp2
          go_end0
          exact ⟨rfl, by rw [HA.out, hHb, Bool.or_false]; exact BlkV.set_ HR2.out.1 4 _, HR2.out.2.trans ((Only.set _ _ _ _).trans ⟨rfl, rfl, rfl, rfl, fun _ _ => rfl⟩)⟩
end Go.Proofs.Ytbghpgflfaheiaa
