/- The document's example of layer 8, and WindowNone's walk: no window has nothing. -/
import Derived.Test.YtdemelbgdgfliaaWinR2
namespace Go.Proofs.Ytdemelbgdgfliaa
open Go.RowKit
set_option linter.unusedVariables false

/-- A window that has just been laid. -/
theorem win_new (w : World) : WinAt (w.alloc (.cells #[.int .i64 0, .int .u64 0] 27)) w.heap.size [] :=
  ⟨0, 0, WinS.nil, BlkV.new w 27 (winC 0 0)⟩

theorem mark_is (L M : List Int) (i e : Int) (hM : mkL L i = M) (he : (if frL L i = true then (0 : Int) else 5) = e) (hi : i ≤ 9223372036854775807) (ht : hiL L ≤ 9223372036854775807) (g : Nat) (w : World) (hW : WinAt w g L) :
    Calls Try.prog 10 #[.pointer (some ⟨g, 0, none⟩), .int .i64 i] w fun x w' => x = .returned (.int .i64 e) ∧ WinAt w' g M ∧ Only g w w' := by
  subst hM; subst he
  exact mark_any g L i w hW hi ht

set_option maxRecDepth 100000 in
theorem alive_any (w : World) : Calls Try.prog 6 #[] w fun e w' => e = .returned (.bool true) ∧ Below w.heap.size w w' := by
  have hz : ∀ w, (zeroValue 27).run Try.prog w = .ok (.agg #[.int .i64 0, .int .u64 0]) w := fun w => by kernel_rfl
  have M1 := Lib.hid (mark_is [] [100] 100 0 (by decide) (by decide) (by decide) (by decide))
  have M2 := Lib.hid (mark_is [100] [100, 37] 37 0 (by decide) (by decide) (by decide) (by decide))
  have M3 := Lib.hid (mark_is [100, 37] [100, 37] 36 5 (by decide) (by decide) (by decide) (by decide))
  have M4 := Lib.hid (mark_is [100, 37] [100, 37] 100 5 (by decide) (by decide) (by decide) (by decide))
  have H1 : Hid (∀ g wx, WinAt wx g [100, 37] → Calls Try.prog 12 #[.pointer (some ⟨g, 0, none⟩)] wx fun e w' => e = .returned (.int .i64 100) ∧ wx = w') := Lib.hid fun g wx h => high_any g [100, 37] wx h
  have h0 := win_new w
  have b0 : Below w.heap.size w (w.alloc (.cells #[.int .i64 0, .int .u64 0] 27)) := (Below.refl _ _).alloc (Nat.le_refl _) _
  go_enter Try.func6, Try.ntmps6
  go_wp2_with (first
    | (go_at_call 10; ((with_reducible refine (Hid.out M1 _ _ h0).mono ?_); rintro e w1 ⟨rfl, h1, o1⟩))
    | (go_at_call 10; ((with_reducible refine (Hid.out M2 _ _ h1).mono ?_); rintro e w2 ⟨rfl, h2, o2⟩))
    | (go_at_call 10; ((with_reducible refine (Hid.out M3 _ _ h2).mono ?_); rintro e w3 ⟨rfl, h3, o3⟩))
    | (go_at_call 10; ((with_reducible refine (Hid.out M4 _ _ h3).mono ?_); rintro e w4 ⟨rfl, h4, o4⟩))
    | (go_at_call 12; ((with_reducible refine (Hid.out H1 _ _ h4).mono ?_); rintro e w5 ⟨rfl, rfl⟩)))
  go_ret
  exact ⟨rfl, b0.trans ((o1.trans (o2.trans (o3.trans o4))).below (Nat.le_refl _))⟩

theorem windowNone_walk (i : Int) (w : World) (hi : (Lit.int .i64 i).wf = true) :
    Calls Try.prog 5 #[.int .i64 i] w fun e w' => e = .returned (.bool true) ∧ Below w.heap.size w w' := by
  have HAL := Lib.hid (alive_any w)
  clear hi
  go_enter Try.func5, Try.ntmps5
  go_wp2_with (first
    | (go_at_call 6; ((with_reducible refine (Hid.out HAL).mono ?_); rintro e w1 ⟨rfl, hb1⟩))
    | (go_at_call 8; ((with_reducible refine (fresh_none _ _).mono ?_); rintro e w2 ⟨rfl, rfl⟩))
    | (go_at_call 10; ((with_reducible refine (mark_none _ _).mono ?_); rintro e w2 ⟨rfl, rfl⟩))
    | (go_at_call 12; ((with_reducible refine (high_none _).mono ?_); rintro e w2 ⟨rfl, rfl⟩))
    | (go_at_call 14; ((with_reducible refine (count_none _).mono ?_); rintro e w2 ⟨rfl, rfl⟩)))
  go_ret
  exact ⟨rfl, hb1⟩

theorem great_any (i : Int) (b : Bool) (w : World) (hb : decide (4611686018427387904 < i) = b) :
    Calls Try.prog 7 #[.int .i64 i] w fun e w' => e = .returned (.bool b) ∧ w = w' := by
  go_enter Try.func7, Try.ntmps7
  go_wp2
  go_ret
  exact ⟨rfl, rfl⟩
end Go.Proofs.Ytdemelbgdgfliaa
