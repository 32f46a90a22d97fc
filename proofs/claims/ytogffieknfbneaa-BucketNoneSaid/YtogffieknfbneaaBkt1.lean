/- Contracts of package bucket: the least of two, what is given, taken, waited for. No statement is proved here. -/
import Derived.Test.YtogffieknfbneaaOct
import Derived.Test.YtogffieknfbneaaMem
import Derived.LoopTactic
import Derived.Deep.RegionHeld3
import Derived.BigQuiet
namespace Go.Proofs.Ytogffieknfbneaa
open Go.RowKit
set_option linter.unusedVariables false

/-- A number of 64 bits. -/
def U64 (x : Int) : Prop := 0 ≤ x ∧ x ≤ 18446744073709551615
/-- The least of two. -/
def lstB (a n : Int) : Int := if n < a then n else a
/-- What a bucket of burst B that has h has behind n more. -/
def givB (B h n : Int) : Int := lstB (satN h n) B
/-- In how many ticks it has n. -/
def wtB (r B h n : Int) : Int := if n ≤ h then 0 else if B < n ∨ r = 0 then -1 else lstB ((n - h - 1) / r + 1) 9223372036854775807
/-- Block g is a bucket of rate r and burst B that has h. -/
structure BktAt (w : World) (g : Nat) (r B h : Int) : Prop where
  blk : BlkV w g 38 [.int .u64 r, .int .u64 B, .int .u64 h]
  ur : U64 r
  uB : U64 B
  uh : U64 h
section
variable {w w' : World} {g : Nat} {r B h : Int}
theorem BktAt.below (k : BktAt w g r B h) (hb : Below w.heap.size w w') : BktAt w' g r B h := ⟨k.blk.below hb k.blk.lt, k.ur, k.uB, k.uh⟩
theorem BktAt.drew (k : BktAt w g r B h) : BktAt w.drew g r B h := ⟨k.blk, k.ur, k.uB, k.uh⟩
theorem BktAt.lt (k : BktAt w g r B h) : g < w.heap.size := k.blk.lt
theorem BktAt.only (k : BktAt w g r B h) {p : Nat} (hb : Only p w w') (hg : g ≠ p) : BktAt w' g r B h := ⟨k.blk.only hb hg, k.ur, k.uB, k.uh⟩
theorem BktAt.grown (k : BktAt w g r B h) {row : Option Nat} (hb : w.grownBy w' row) (hg : some g ≠ row) : BktAt w' g r B h := ⟨k.blk.grown hb hg, k.ur, k.uB, k.uh⟩
end
theorem U64.sat {h n : Int} (a : U64 h) (b : U64 n) : U64 (satN h n) := by
  unfold satN U64 at *; split <;> omega
theorem U64.lst {a b : Int} (x : U64 a) (y : U64 b) : U64 (lstB a b) := by
  unfold lstB; split <;> assumption
theorem U64.giv {B h n : Int} (b : U64 B) (a : U64 h) (c : U64 n) : U64 (givB B h n) := (U64.sat a c).lst b

theorem least_any (a n : Int) (b : Nat) (w : World) (hc : w.cell? ⟨b, 0, none⟩ = some (.int .u64 n)) (ha : U64 a) (hn : U64 n) :
    Calls Try.prog 14 #[.int .u64 a, .slice (some ⟨b, 0, none⟩) 1 1] w fun e w' => e = .returned (.int .u64 (lstB a n)) ∧ w = w' := by
  obtain ⟨ha1, ha2⟩ := ha
  obtain ⟨hn1, hn2⟩ := hn
  go_enter Try.func14, Try.ntmps14
  go_wp2
  go_loop [0, 9] (fun va vi => (va = .int .u64 a ∧ vi = .int .i64 0) ∨ (va = .int .u64 (lstB a n) ∧ vi = .int .i64 1)) (fun _ i => 1 - (intOf i).toNat)
  case atStart => exact .inl ⟨rfl, rfl⟩
  case round =>
    rcases hrel with ⟨rfl, rfl⟩ | ⟨rfl, rfl⟩
    · by_cases h : n < a
      · have e : lstB a n = n := by simp [lstB, h]
        have HE := Lib.hid e
        clear e
        go_wp2
        go_round
        case rel => exact .inr ⟨by rw [HE.out], by go_num⟩
        case measure => simp [intOf]
      · have e : lstB a n = a := by simp [lstB, h]
        have HE := Lib.hid e
        have h' : a ≤ n := by omega
        clear e
        go_wp2
        go_round
        case rel => exact .inr ⟨by rw [HE.out], by go_num⟩
        case measure => simp [intOf]
    · go_wp2
      go_ret
      exact ⟨rfl, rfl⟩
end Go.Proofs.Ytogffieknfbneaa
