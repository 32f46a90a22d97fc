/- The document's example of layer 9; a bucket that stays; BucketNone's walk: no bucket has nothing. -/
import Derived.Test.YtogffieknfbneaaBkt3
namespace Go.Proofs.Ytogffieknfbneaa
open Go.RowKit
set_option linter.unusedVariables false

/-- What is there all along: a bucket of the call's own. -/
structure BE (w0 : World) (g : Nat) (r B h : Int) (w : World) : Prop where
  at_ : BktAt w g r B h
  b : Below w0.heap.size w0 w
  lg : w0.heap.size ≤ g
section
variable {w0 w w' : World} {g : Nat} {r B h n : Int}
theorem BE.below (k : BE w0 g r B h w) (hb : Below w.heap.size w w') : BE w0 g r B h w' := ⟨k.at_.below hb, k.b.trans (hb.mono k.b.size), k.lg⟩
theorem BE.drew (k : BE w0 g r B h w) : BE w0 g r B h w.drew := ⟨k.at_.drew, k.b.drew, k.lg⟩
theorem be_new (hb : Below w0.heap.size w0 w) (hr : U64 r) (hB : U64 B) :
    Calls Try.prog 7 #[.int .u64 r, .int .u64 B] w fun e w' => e = .returned (.pointer (some ⟨w.heap.size, 0, none⟩)) ∧ BE w0 w.heap.size r B B w' :=
  (new_any r B w hr hB).mono fun _ _ h => ⟨h.1, h.2.1, hb.trans (h.2.2.mono hb.size), hb.size⟩
theorem be_can (k : BE w0 g r B h w) (h0 : 0 ≤ n) (hn : n ≤ h) :
    Calls Try.prog 9 #[.pointer (some ⟨g, 0, none⟩), .int .u64 n] w fun e w' => e = .returned (.bool true) ∧ BE w0 g r B (h - n) w' :=
  (take_can g r B h n w k.at_ h0 hn).mono fun _ _ x => ⟨x.1, x.2.1, k.b.trans (x.2.2.below k.lg), k.lg⟩
theorem be_not (k : BE w0 g r B h w) (hn : h < n) :
    Calls Try.prog 9 #[.pointer (some ⟨g, 0, none⟩), .int .u64 n] w fun e w' => e = .returned (.bool false) ∧ BE w0 g r B h w' :=
  (take_not g r B h n w k.at_ hn).mono fun _ _ x => ⟨x.1, x.2 ▸ k⟩
theorem be_wait (k : BE w0 g r B h w) (hn : U64 n) :
    Calls Try.prog 10 #[.pointer (some ⟨g, 0, none⟩), .int .u64 n] w fun e w' => e = .returned (.int .i64 (wtB r B h n)) ∧ BE w0 g r B h w' :=
  (wait_any g r B h n w k.at_ hn).mono fun _ _ x => ⟨x.1, k.below x.2⟩
theorem be_tick (k : BE w0 g r B h w) :
    Calls Try.prog 8 #[.pointer (some ⟨g, 0, none⟩)] w fun e w' => e = .returned (.tuple #[]) ∧ BE w0 g r B (givB B h r) w' :=
  (tick_any g r B h w k.at_).mono fun _ _ x => ⟨x.1, x.2.1, k.b.trans (below_of_grown x.2.2 k.b.size (fun p hp => by injection hp with hp; subst hp; exact k.lg)), k.lg⟩
theorem be_have (k : BE w0 g r B h w) :
    Calls Try.prog 11 #[.pointer (some ⟨g, 0, none⟩)] w fun e w' => e = .returned (.int .u64 h) ∧ w = w' := have_any g r B h w k.at_
end

theorem be_tick1 {w0 w : World} {g : Nat} (k : BE w0 g 2 5 (5 - 4) w) :
    Calls Try.prog 8 #[.pointer (some ⟨g, 0, none⟩)] w fun e w' => e = .returned (.tuple #[]) ∧ BE w0 g 2 5 3 w' := by
  have h := be_tick k
  rw [show givB 5 (5 - 4) 2 = 3 by decide] at h
  exact h
theorem be_wait1 {w0 w : World} {g : Nat} (k : BE w0 g 2 5 (5 - 4) w) :
    Calls Try.prog 10 #[.pointer (some ⟨g, 0, none⟩), .int .u64 2] w fun e w' => e = .returned (.int .i64 1) ∧ BE w0 g 2 5 (5 - 4) w' := by
  have h := be_wait k (n := 2) ⟨by decide, by decide⟩
  rw [show wtB 2 5 (5 - 4) 2 = 1 by decide] at h
  exact h

set_option maxRecDepth 100000 in
theorem alive_any (w : World) : Calls Try.prog 6 #[] w fun e w' => e = .returned (.bool true) ∧ Below w.heap.size w w' := by
  have hb := Below.refl w.heap.size w
  have H0 := Lib.hid (be_new (r := 2) (B := 5) hb ⟨by decide, by decide⟩ ⟨by decide, by decide⟩)
  clear hb
  go_enter Try.func6, Try.ntmps6
  go_wp2_with (first
    | (go_at_call 7; ((with_reducible refine (Hid.out H0).mono ?_); rintro e w1 ⟨rfl, h1⟩))
    | (go_at_call 9; ((with_reducible refine (be_can h1 (n := 4) ?_ ?_).mono ?_); decide; decide; rintro e w2 ⟨rfl, h2⟩))
    | (go_at_call 9; ((with_reducible refine (be_not h2 (n := 2) ?_).mono ?_); decide; rintro e w3 ⟨rfl, h3⟩))
    | (go_at_call 10; ((with_reducible refine (be_wait1 h3).mono ?_); rintro e w4 ⟨rfl, h4⟩))
    | (go_at_call 8; ((with_reducible refine (be_tick1 h4).mono ?_); rintro e w5 ⟨rfl, h5⟩))
    | (go_at_call 11; ((with_reducible refine (be_have h5).mono ?_); rintro e w6 ⟨rfl, rfl⟩)))
  go_ret
  exact ⟨rfl, h5.b⟩

theorem bucketNone_walk (n : Int) (w : World) (hn : (Lit.int .u64 n).wf = true) :
    Calls Try.prog 5 #[.int .u64 n] w fun e w' => e = .returned (.bool true) ∧ Below w.heap.size w w' := by
  have HAL := Lib.hid (alive_any w)
  clear hn
  go_enter Try.func5, Try.ntmps5
  go_wp2_with (first
    | (go_at_call 6; ((with_reducible refine (Hid.out HAL).mono ?_); rintro e w1 ⟨rfl, hb1⟩))
    | (go_at_call 8; ((with_reducible refine (tick_none _).mono ?_); rintro e w2 ⟨rfl, rfl⟩))
    | (go_at_call 12; ((with_reducible refine (give_none _ _).mono ?_); rintro e w2 ⟨rfl, rfl⟩))
    | (go_at_call 11; ((with_reducible refine (have_none _).mono ?_); rintro e w2 ⟨rfl, rfl⟩))
    | (go_at_call 9; ((with_reducible refine (take_none _ _).mono ?_); rintro e w2 ⟨rfl, rfl⟩))
    | (go_at_call 10; ((with_reducible refine (wait_none _ _).mono ?_); rintro e w2 ⟨rfl, rfl⟩))
    | (go_at_call 13; ((with_reducible refine (copy_none _).mono ?_); rintro e w2 ⟨rfl, rfl⟩)))
  go_ret
  exact ⟨rfl, hb1⟩
end Go.Proofs.Ytogffieknfbneaa
