/- What the three statements of layer 1 share: that the document's examples come out, as the statements ask first. No statement is proved here. -/
import Derived.Test.YtpmmifbaoccajaaOct
import Derived.Test.YtpmmifbaoccajaaOctRef
import Derived.Lib.Hide
namespace Go.Proofs.Ytpmmifbaoccajaa
open Go.RowKit
set_option linter.unusedVariables false

theorem conv_own {w : World} {base n : Nat} {v : Value} {bs : List UInt8} (h : w.ownsRow base 5 1 v n (cells bs)) : (convert 22 9 v).run Try.prog w = .ok (.string (txt bs)) w := by
  obtain ⟨A, c, rfl⟩ := own_form h
  exact run_conv (RdS.of_own h) 22 9 5 Try.underlying22 Try.underlying5 Try.underlying9
theorem conv_rd {w : World} {A : Option Addr} {n c : Nat} {bs : List UInt8} (h : RdS w A n c bs) : (convert 22 9 (.slice A n c)).run Try.prog w = .ok (.string (txt bs)) w :=
  run_conv h 22 9 5 Try.underlying22 Try.underlying5 Try.underlying9

theorem conv_s {w : World} {A : Option Addr} {n c : Nat} {bs : List UInt8} {s : ByteArray} (hs : s = txt bs) (h : RdS w A n c bs) : (convert 22 9 (.slice A n c)).run Try.prog w = .ok (.string s) w := by
  rw [hs]; exact conv_rd h
theorem conv_so {w : World} {base n : Nat} {v : Value} {bs : List UInt8} {s : ByteArray} (hs : s = txt bs) (h : w.ownsRow base 5 1 v n (cells bs)) : (convert 22 9 v).run Try.prog w = .ok (.string s) w := by
  rw [hs]; exact conv_own h

theorem num_ex (w : World) : Calls Try.prog 7 #[.slice (some ⟨w.heap.size, 0, none⟩) 3 3, .int .i64 1, .int .i64 2] (w.alloc (.cells #[.int .u8 1, .int .u8 2, .int .u8 3] 5)) fun e w' => e = .returned (.tuple #[.int .u64 515, .bool true]) ∧ w.alloc (.cells #[.int .u8 1, .int .u8 2, .int .u8 3] 5) = w' := by
  have hr : RdS (w.alloc (.cells #[.int .u8 1, .int .u8 2, .int .u8 3] 5)) (some ⟨w.heap.size, 0, none⟩) 3 3 [1, 2, 3] :=
    (show Blk (w.alloc (.cells #[.int .u8 1, .int .u8 2, .int .u8 3] 5)) w.heap.size 5 [1, 2, 3] from Blk.new w _ [1, 2, 3]).rd rfl (Nat.le_refl _) (by simp [maxLen])
  have h1 := num_yes _ _ _ _ 1 2 _ hr (by omega) (by omega) (by omega)
  rw [show numb ((([1, 2, 3] : List UInt8).drop 1).take 2) = 515 from by decide] at h1
  exact h1
theorem put_ex (w : World) : Calls Try.prog 10 #[.slice none 0 0, .int .i64 2, .int .u64 258] w fun e w' => e = .returned (.slice (some ⟨w.heap.size, 0, none⟩) 2 2) ∧ (convert 22 9 (.slice (some ⟨w.heap.size, 0, none⟩) 2 2)).run Try.prog w' = .ok (.string (txt [1, 2])) w' ∧ Below w.heap.size w w' := by
  have h2 := put_some none 0 0 [] 2 258 w (RdS.nil _) (by omega) (by omega) (by omega) (by omega)
  rw [show ([] : List UInt8) ++ beb 2 258 = [1, 2] from by decide] at h2
  exact h2.mono fun _ _ ⟨he, hB, hb⟩ => ⟨he, conv_rd (hB.rd (n := 2) (c := 2) rfl (Nat.le_refl _) (by simp [maxLen])), hb⟩

theorem alive_any (w : World) : Calls Try.prog 6 #[] w fun e w' => e = .returned (.bool true) ∧ Below w.heap.size w w' := by
  have hb0 : Below w.heap.size w (w.alloc (.cells #[.int .u8 1, .int .u8 2, .int .u8 3] 5)) := (Below.refl _ _).alloc (Nat.le_refl _) _
  have h3 := sat_any 18446744073709551615 1
  rw [show satN 18446744073709551615 1 = 18446744073709551615 from by decide] at h3
  have h1 := num_ex w
  have h2 := put_ex (w.alloc (.cells #[.int .u8 1, .int .u8 2, .int .u8 3] 5))
  rw [show (w.alloc (.cells #[.int .u8 1, .int .u8 2, .int .u8 3] 5)).heap.size = w.heap.size + 1 from by simp] at h2
  have H1 := Lib.hid h1
  have H2 := Lib.hid h2
  have H3 := Lib.hid h3
  clear h1 h2 h3
  have ht : ((txt [1, 2]).toList == [1, 2]) = true := by rw [txt_toList]; rfl
  go_enter Try.func6, Try.ntmps6
  go_wp2_with (first
    | (go_at_call 7; ((with_reducible refine (Hid.out H1).mono ?_); rintro e w' ⟨rfl, rfl⟩))
    | (go_at_call 10; ((with_reducible refine (Hid.out H2).mono ?_); rintro e w' ⟨rfl, hcv, hb⟩))
    | (go_at_call 12; ((refine (Hid.out H3 _ (by omega) (by omega) (by omega) (by omega)).mono ?_); rintro e w' ⟨rfl, rfl⟩)))
  go_ret
  exact ⟨rfl, hb0.trans (hb.mono (by omega))⟩
end Go.Proofs.Ytpmmifbaoccajaa
