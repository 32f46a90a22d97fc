/- The walks of layer 3's three laws: the law answers true, and nothing that was there is written, where the package's first words lie as they were laid. -/
import Derived.Test.YtialmefkdcgjhaaDoorShaAlive
import Derived.Test.YtialmefkdcgjhaaDoorShaRef
namespace Go.Proofs.YtialmefkdcgjhaaDoor
open Go.RowKit
set_option linter.unusedVariables false

theorem shaSums_walk (A : Option Addr) (nb c : Nat) (bs : List UInt8) (w : World) (ht : Tab w) (hw : 0 < w.heap.size) (hr : RdS w A nb c bs) :
    Calls Tryd.prog 3 #[.slice A nb c] w fun e w' => e = .returned (.bool true) ∧ Below w.heap.size w w' := by
  have HAL := Lib.hid (alive_any w ht hw)
  have hs := hr.small
  by_cases h1 : 2000 < nb
  · have hd : (2000 : Int) < (nb : Int) := by omega
    go_enter Tryd.func3, Tryd.ntmps3
    go_wp2_with (go_at_call 6; ((with_reducible refine (Hid.out HAL).mono ?_); rintro e w1 ⟨rfl, hb1⟩))
    go_ret
    exact ⟨rfl, hb1⟩
  · have hd : decide ((2000 : Int) < (nb : Int)) = false := by simp; omega
    have hn : nb ≤ 2000 := by omega
    have hl := hr.len
    obtain ⟨D, hD⟩ : ∃ D, D = shaSum bs := ⟨_, rfl⟩
    have hsum : ∀ w1, Below w.heap.size w w1 → Calls Tryd.prog 7 #[.slice (some ⟨w1.heap.size, 0, none⟩) 1 1] (w1.alloc (.cells #[.slice A nb c] 22)) fun e w' => e = .returned (.agg (cells D).toArray) ∧ Below w1.heap.size w1 w' := by
      intro w1 hb1
      have hr1 := hr.below hb1
      have ht1 := tab_below ht hb1
      have hb : Below w1.heap.size w1 (w1.alloc (.cells #[.slice A nb c] 22)) := (Below.refl _ _).alloc (Nat.le_refl _) _
      have := sum_any _ 1 1 [bs] _ (tab_below ht1 hb) (by simp) (parts_one hr1 22) (by omega) (by simp; omega)
      have e : [bs].flatten = bs := by simp
      rw [e, ← hD] at this
      exact this.mono fun _ _ ⟨h1, h2⟩ => ⟨h1, hb.trans (h2.mono hb.size)⟩
    have hrs : ∀ w1, Below w.heap.size w w1 → Calls Tryd.prog 8 #[.slice A nb c] w1 fun e w' => e = .returned (.agg (cells D).toArray) ∧ Below w1.heap.size w1 w' := by
      intro w1 hb1
      rw [hD]
      exact rsum_any A nb c bs w1 (hr.below hb1) (by omega)
    have q := eq20_same D (by rw [hD]; exact shaSum_len bs)
    have HSM := Lib.hid hsum
    have HRS := Lib.hid hrs
    clear hsum hrs hD hl h1
    go_enter Tryd.func3, Tryd.ntmps3
    go_wp2_with (first
      | (go_at_call 6; ((with_reducible refine (Hid.out HAL).mono ?_); rintro e w1 ⟨rfl, hb1⟩))
      | (go_at_call 7; ((with_reducible refine (Hid.out HSM _ hb1).mono ?_); rintro e w2 ⟨rfl, hb2⟩; have hb3 := hb1.trans (hb2.mono hb1.size)))
      | (go_at_call 8; ((with_reducible refine (Hid.out HRS _ hb3).mono ?_); rintro e w4 ⟨rfl, hb4⟩; have hb5 := hb3.trans (hb4.mono hb3.size))))
    go_ret
    exact ⟨rfl, hb5⟩

theorem shaNone_walk (A : Option Addr) (nb c : Nat) (w : World) (ht : Tab w) (hw : 0 < w.heap.size) :
    Calls Tryd.prog 5 #[.slice A nb c] w fun e w' => e = .returned (.bool true) ∧ Below w.heap.size w w' := by
  have HAL := Lib.hid (alive_any w ht hw)
  obtain ⟨D, hD⟩ : ∃ D, D = shaSum [] := ⟨_, rfl⟩
  have hdn : ∀ w1, Below w.heap.size w w1 → Calls Tryd.prog 11 #[.pointer none] w1 fun e w' => e = .returned (.agg (cells D).toArray) ∧ Below w1.heap.size w1 w' := by
    intro w1 hb1
    rw [hD]
    exact done_none w1 (tab_below ht hb1) (Nat.lt_of_lt_of_le hw hb1.size)
  have hrs : ∀ w1 : World, Calls Tryd.prog 8 #[.slice none 0 0] w1 fun e w' => e = .returned (.agg (cells D).toArray) ∧ Below w1.heap.size w1 w' := by
    intro w1
    rw [hD]
    exact rsum_any none 0 0 [] w1 (RdS.nil w1) (by omega)
  have q := eq20_same D (by rw [hD]; exact shaSum_len [])
  have HDN := Lib.hid hdn
  have HRS := Lib.hid hrs
  clear hdn hrs hD
  go_enter Tryd.func5, Tryd.ntmps5
  go_wp2_with (first
    | (go_at_call 6; ((with_reducible refine (Hid.out HAL).mono ?_); rintro e w1 ⟨rfl, hb1⟩))
    | (go_at_call 10; ((with_reducible refine (write_none _ _ _ _).mono ?_); rintro e w' ⟨rfl, rfl⟩))
    | (go_at_call 11; ((with_reducible refine (Hid.out HDN _ hb1).mono ?_); rintro e w2 ⟨rfl, hb2⟩; have hb3 := hb1.trans (hb2.mono hb1.size)))
    | (go_at_call 8; ((with_reducible refine (Hid.out HRS _).mono ?_); rintro e w4 ⟨rfl, hb4⟩; have hb5 := hb3.trans (hb4.mono hb3.size)))
    | (go_at_call 12; ((with_reducible refine (size_none _).mono ?_); rintro e w' ⟨rfl, rfl⟩)))
  go_ret
  exact ⟨rfl, hb5⟩
end Go.Proofs.YtialmefkdcgjhaaDoor
