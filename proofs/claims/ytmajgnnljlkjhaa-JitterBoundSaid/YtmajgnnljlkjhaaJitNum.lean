/- Plain words on gauges of jitter (layer 18): what a packet makes of a gauge, the document's fold, and the laws' arithmetic. Names no function of the program. No statement is proved here. -/
import Derived.Test.YtmajgnnljlkjhaaMem
import Derived.Test.YtmajgnnljlkjhaaSeqs
namespace Go.Proofs.Ytmajgnnljlkjhaa
open Go.RowKit
set_option linter.unusedVariables false

/-- A gauge: how long the last packet was on its way, sixteen times the jitter, how many came. -/
structure Ggd where
  y : Int
  x : Int
  c : Int
/-- Its cells. -/
def Ggd.cells (s : Ggd) : List Value := [.int .u32 s.y, .int .u64 s.x, .int .i64 s.c]
/-- One that has had nothing. -/
def ggd0 : Ggd := ⟨0, 0, 0⟩
/-- How far two ways differ. -/
def difJ (a b : Int) : Int := if goneZ a b < 0 then - goneZ a b else goneZ a b
/-- The sixteenfold behind a difference. -/
def smoJ (x d : Int) : Int := if 4294967295 < x + d - (x + 8) / 16 then 4294967295 else x + d - (x + 8) / 16
/-- A packet that was so long on its way. -/
def takJ (s : Ggd) (y : Int) : Ggd := ⟨y, if s.c = 0 then s.x else smoJ s.x (difJ s.y y), s.c + 1⟩
/-- Its numbers are small, N being how many it may have had; one that has had none has nothing. -/
structure Ggd.ok (N : Int) (s : Ggd) : Prop where
  y0 : 0 ≤ s.y
  y1 : s.y ≤ 4294967295
  x0 : 0 ≤ s.x
  x1 : s.x ≤ 4294967295
  c0 : 0 ≤ s.c
  c1 : s.c ≤ N
  none : s.c = 0 → s.y = 0 ∧ s.x = 0
theorem difJ_bd (a b : Int) : 0 ≤ difJ a b ∧ difJ a b ≤ 2147483648 := by
  have := goneZ_bd a b
  unfold difJ; split <;> omega
theorem smoJ_bd {x d : Int} (hx : 0 ≤ x) (hx1 : x ≤ 4294967295) (hd : 0 ≤ d) : 0 ≤ smoJ x d ∧ smoJ x d ≤ 4294967295 := by
  unfold smoJ; split <;> omega
theorem ggd0_ok : ggd0.ok 0 := ⟨by decide, by decide, by decide, by decide, by decide, by decide, fun _ => ⟨rfl, rfl⟩⟩
theorem Ggd.ok.mono {s : Ggd} {N M : Int} (k : s.ok N) (h : N ≤ M) : s.ok M := ⟨k.y0, k.y1, k.x0, k.x1, k.c0, Int.le_trans k.c1 h, k.none⟩
theorem takJ_ok {s : Ggd} {N y : Int} (k : s.ok N) (y0 : 0 ≤ y) (y1 : y ≤ 4294967295) : (takJ s y).ok (N + 1) := by
  have a := k.c0; have b := k.c1
  have hs := smoJ_bd k.x0 k.x1 (difJ_bd s.y y).1
  refine ⟨y0, y1, ?_, ?_, by simp only [takJ]; omega, by simp only [takJ]; omega, fun h => ?_⟩
  · simp only [takJ]; split
    · exact k.x0
    · exact hs.1
  · simp only [takJ]; split
    · exact k.x1
    · exact hs.2
  · simp only [takJ] at h; omega

/-- The document's sixteenfold of the first n packets, by their ways. -/
def sixJ (ys : Nat → Int) : Nat → Int
  | 0 => 0
  | n + 1 => if n = 0 then 0 else smoJ (sixJ ys n) (difJ (ys (n - 1)) (ys n))
/-- The gauge behind the first n packets. -/
def gauJ (ys : Nat → Int) : Nat → Ggd
  | 0 => ggd0
  | n + 1 => takJ (gauJ ys n) (ys n)
theorem gauJ_c (ys : Nat → Int) : ∀ n : Nat, (gauJ ys n).c = n
  | 0 => rfl
  | n + 1 => by have := gauJ_c ys n; simp only [gauJ, takJ, this]; omega
theorem gauJ_y (ys : Nat → Int) (n : Nat) : (gauJ ys (n + 1)).y = ys n := rfl
theorem gauJ_x (ys : Nat → Int) : ∀ n : Nat, (gauJ ys n).x = sixJ ys n
  | 0 => rfl
  | 1 => rfl
  | n + 2 => by
    have h := gauJ_x ys (n + 1)
    have hc := gauJ_c ys (n + 1)
    show (if (gauJ ys (n + 1)).c = 0 then _ else smoJ (gauJ ys (n + 1)).x (difJ (gauJ ys (n + 1)).y (ys (n + 1)))) = if n + 1 = 0 then 0 else _
    rw [if_neg (by rw [hc]; omega), if_neg (by omega), h, gauJ_y]
    rfl
theorem gauJ_ok (ys : Nat → Int) (hy : ∀ k, 0 ≤ ys k ∧ ys k ≤ 4294967295) : ∀ n : Nat, (gauJ ys n).ok n
  | 0 => ggd0_ok
  | n + 1 => by have := takJ_ok (gauJ_ok ys hy n) (hy n).1 (hy n).2; rw [show ((n + 1 : Nat) : Int) = (n : Int) + 1 by omega]; exact this
theorem sixJ_bd (ys : Nat → Int) : ∀ n : Nat, 0 ≤ sixJ ys n ∧ sixJ ys n ≤ 4294967295
  | 0 => by simp [sixJ]
  | n + 1 => by
    have := sixJ_bd ys n
    simp only [sixJ]
    split
    · omega
    · exact smoJ_bd this.1 this.2 (difJ_bd _ _).1
end Go.Proofs.Ytmajgnnljlkjhaa
