/- Plain words on sources in probation (layer 17): what a number makes of a source, and the laws' arithmetic. Names no function of the program. No statement is proved here. -/
import Derived.Test.YteofkajdcmjbgaaMem
namespace Go.Proofs.Yteofkajdcmjbgaa
open Go.RowKit
set_option linter.unusedVariables false

/-- A source: has it had a number, its probation, its highest number, how many turns, its first index, how many came, its bad number. -/
structure Src where
  had : Bool
  p : Int
  h : Int
  t : Int
  f : Int
  c : Int
  b : Int
/-- Its cells. -/
def Src.cells (s : Src) : List Value := [.bool s.had, .int .i64 s.p, .int .u16 s.h, .int .i64 s.t, .int .i64 s.f, .int .i64 s.c, .int .i64 s.b]
/-- One that has had nothing. -/
def src0 : Src := ⟨false, 0, 0, 0, 0, 0, 0⟩
/-- Its numbers are small, N being how many it may have had. -/
structure Src.ok (N : Int) (s : Src) : Prop where
  p0 : 0 ≤ s.p
  p2 : s.p ≤ 2
  h0 : 0 ≤ s.h
  h1 : s.h ≤ 65535
  t0 : 0 ≤ s.t
  t1 : s.t ≤ N
  f0 : 0 ≤ s.f
  f1 : s.f ≤ 65535
  c0 : 0 ≤ s.c
  c1 : s.c ≤ N
  b0 : -1 ≤ s.b
  b1 : s.b ≤ 65535
theorem src0_ok : src0.ok 0 := ⟨by decide, by decide, by decide, by decide, by decide, by decide, by decide, by decide, by decide, by decide, by decide, by decide⟩
theorem Src.ok.mono {s : Src} {N M : Int} (k : s.ok N) (h : N ≤ M) : s.ok M := ⟨k.p0, k.p2, k.h0, k.h1, k.t0, Int.le_trans k.t1 h, k.f0, k.f1, k.c0, Int.le_trans k.c1 h, k.b0, k.b1⟩

/-- It begins with a number. -/
def begS (s : Src) (x : Int) : Src := ⟨s.had, 0, x, 0, x, 1, -1⟩
/-- A number in probation. -/
def prvS (s : Src) (x : Int) : Bool × Src :=
  if x ≠ (s.h + 1) % 65536 then (false, { s with p := 1, h := x }) else if 1 < s.p then (false, { s with p := s.p - 1, h := x }) else (true, begS s x)
/-- A number behind the beginning. -/
def folS (s : Src) (x : Int) : Bool × Src :=
  if (x - s.h) % 65536 < 3000 then (true, { s with h := x, t := if x < s.h then s.t + 1 else s.t, c := s.c + 1 })
  else if 65436 < (x - s.h) % 65536 then (true, { s with c := s.c + 1 })
  else if x = s.b then (true, begS s x) else (false, { s with b := (x + 1) % 65536 })
/-- .. with the first number, if it is that. -/
def strS (s : Src) (x : Int) : Src := if s.had then s else { s with had := true, p := 2, h := (x - 1) % 65536 }
/-- A number. -/
def takS (s : Src) (x : Int) : Bool × Src := if 0 < (strS s x).p then prvS (strS s x) x else folS (strS s x) x
/-- Has it begun? -/
def Src.on (s : Src) : Bool := s.had && decide (s.p = 0)
/-- A number's index. -/
def idxS (s : Src) (x : Int) : Int := (if s.h < x then s.t - 1 else s.t) * 65536 + x

theorem begS_ok {s : Src} {N x : Int} (k : s.ok N) (x0 : 0 ≤ x) (x1 : x ≤ 65535) (hN : 0 ≤ N) : (begS s x).ok (N + 1) :=
  ⟨by simp [begS], by simp [begS], x0, x1, by simp [begS], by simp [begS]; omega, x0, x1, by simp [begS], by simp [begS]; omega, by simp [begS], by simp [begS]⟩
theorem prvS_ok {s : Src} {N x : Int} (k : s.ok N) (x0 : 0 ≤ x) (x1 : x ≤ 65535) (hN : 0 ≤ N) : (prvS s x).2.ok (N + 1) := by
  have k' := k.mono (show N ≤ N + 1 by omega)
  unfold prvS
  split
  · exact ⟨by simp, by simp, x0, x1, k'.t0, k'.t1, k'.f0, k'.f1, k'.c0, k'.c1, k'.b0, k'.b1⟩
  · split
    · have := k.p0; have := k.p2
      exact ⟨by simp; omega, by simp; omega, x0, x1, k'.t0, k'.t1, k'.f0, k'.f1, k'.c0, k'.c1, k'.b0, k'.b1⟩
    · exact begS_ok k x0 x1 hN
theorem folS_ok {s : Src} {N x : Int} (k : s.ok N) (x0 : 0 ≤ x) (x1 : x ≤ 65535) (hN : 0 ≤ N) : (folS s x).2.ok (N + 1) := by
  have k' := k.mono (show N ≤ N + 1 by omega)
  have a := k.t0; have b := k.t1; have c := k.c0; have d := k.c1
  unfold folS
  split
  · exact ⟨k.p0, k.p2, x0, x1, by simp only; split <;> omega, by simp only; split <;> omega, k.f0, k.f1, by simp only; omega, by simp only; omega, k.b0, k.b1⟩
  · split
    · exact ⟨k.p0, k.p2, k.h0, k.h1, k'.t0, k'.t1, k.f0, k.f1, by simp only; omega, by simp only; omega, k.b0, k.b1⟩
    · split
      · exact begS_ok k x0 x1 hN
      · exact ⟨k.p0, k.p2, k.h0, k.h1, k'.t0, k'.t1, k.f0, k.f1, k'.c0, k'.c1, by simp only; omega, by simp only; omega⟩
theorem strS_ok {s : Src} {N x : Int} (k : s.ok N) : (strS s x).ok N := by
  unfold strS
  split
  · exact k
  · exact ⟨by simp, by simp, by simp only; omega, by simp only; omega, k.t0, k.t1, k.f0, k.f1, k.c0, k.c1, k.b0, k.b1⟩
theorem takS_ok {s : Src} {N x : Int} (k : s.ok N) (x0 : 0 ≤ x) (x1 : x ≤ 65535) (hN : 0 ≤ N) : (takS s x).2.ok (N + 1) := by
  unfold takS
  split
  · exact prvS_ok (strS_ok k) x0 x1 hN
  · exact folS_ok (strS_ok k) x0 x1 hN

/-- A begun source that has come far, with so many. -/
structure Beg (s : Src) (H c : Int) : Prop where
  had : s.had = true
  p : s.p = 0
  hi : s.t * 65536 + s.h = H
  c : s.c = c
theorem Beg.on {s : Src} {H c : Int} (k : Beg s H c) : s.on = true := by simp [Src.on, k.had, k.p]
theorem Beg.idx {s : Src} {H c : Int} (k : Beg s H c) : idxS s s.h = H := by simp [idxS, k.hi]
/-- The first two numbers. -/
theorem tak_first (x : Int) : takS src0 x = (false, ⟨true, 1, x, 0, 0, 0, 0⟩) ∨ (x < 0 ∨ 65535 < x) := by
  by_cases h : x < 0 ∨ 65535 < x
  · exact .inr h
  · refine .inl ?_
    have e : ¬ x ≠ ((x - 1) % 65536 + 1) % 65536 := by omega
    simp [takS, strS, src0, prvS]
theorem tak_second (x : Int) (h : 0 ≤ x) (h' : x ≤ 65535) : takS ⟨true, 1, x, 0, 0, 0, 0⟩ ((x + 1) % 65536) = (true, ⟨true, 0, (x + 1) % 65536, 0, (x + 1) % 65536, 1, -1⟩) := by
  simp [takS, strS, prvS, begS]
/-- A number that is less than 3000 ahead. -/
theorem tak_ahead {s : Src} {H c N d : Int} (k : Beg s H c) (ok : s.ok N) (d0 : 1 ≤ d) (d1 : d < 3000) :
    (takS s ((s.h + d) % 65536)).1 = true ∧ Beg (takS s ((s.h + d) % 65536)).2 (H + d) (c + 1) ∧ (takS s ((s.h + d) % 65536)).2.h = (s.h + d) % 65536 ∧ (takS s ((s.h + d) % 65536)).2.f = s.f := by
  obtain ⟨had, p, h, t, f, cc, b⟩ := s
  obtain ⟨k1, k2, k3, k4⟩ := k
  have a := ok.h0; have a' := ok.h1
  simp only at k1 k2 k3 k4 a a'
  subst k1; subst k2; subst k4
  have e : ((h + d) % 65536 - h) % 65536 = d := by omega
  simp only [takS, strS, if_true, Int.lt_irrefl, if_false, folS, e, d1]
  refine ⟨trivial, ⟨rfl, rfl, ?_, rfl⟩, trivial, trivial⟩
  simp only
  split <;> omega
/-- One that is less than 100 behind. -/
theorem tak_late {s : Src} {H c N d : Int} (k : Beg s H c) (ok : s.ok N) (d0 : 1 ≤ d) (d1 : d < 100) :
    (takS s ((s.h - d) % 65536)) = (true, { s with c := s.c + 1 }) ∧ idxS s ((s.h - d) % 65536) = H - d := by
  obtain ⟨had, p, h, t, f, cc, b⟩ := s
  obtain ⟨k1, k2, k3, k4⟩ := k
  have a := ok.h0; have a' := ok.h1
  simp only at k1 k2 k3 k4 a a'
  subst k1; subst k2; subst k4
  have e : ((h - d) % 65536 - h) % 65536 = 65536 - d := by omega
  have e1 : ¬ 65536 - d < 3000 := by omega
  have e2 : 65436 < 65536 - d := by omega
  refine ⟨by simp only [takS, strS, if_true, Int.lt_irrefl, if_false, folS, e, e1, e2], ?_⟩
  simp only [idxS]
  split <;> omega
end Go.Proofs.Yteofkajdcmjbgaa
