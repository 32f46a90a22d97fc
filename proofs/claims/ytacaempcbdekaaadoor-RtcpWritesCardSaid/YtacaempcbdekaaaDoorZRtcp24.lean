/- What packets may be, by the program's deciding and by kinds. No statement is proved here. -/
import Derived.Test.YtacaempcbdekaaaDoorZRtcp23
namespace Go.Proofs.YtacaempcbdekaaaDoor
open Go.RowKit
set_option linter.unusedVariables false

theorem nil_of {α : Type} {L : List α} (h : L.length = 0) : L = [] := List.length_eq_zero_iff.1 h
theorem rate0 : rateP 0 := ⟨by decide, by simp [rM]⟩
theorem mayK_of {c : Ctl} (h : mayK c) : mayC c := by
  obtain ⟨k, so, me, ti, st, pa, oc, reps, nams, srcs, loss, firs, ra⟩ := c
  obtain ⟨hk, hb, ⟨l1, l2, l3, l4, l5⟩, hr⟩ := h
  simp only [longN] at hk l1 l2 l3 l4 l5 hr
  rcases hk with rfl | rfl | rfl | rfl | rfl | rfl | rfl | rfl
  · have hbe : besC ⟨200, so, me, ti, st, pa, oc, reps, nams, srcs, loss, firs, ra⟩ = ⟨200, 0, me, 0, 0, 0, 0, [], nams, srcs, loss, firs, ra⟩ := by simp [besC]
    rw [hbe] at hb
    obtain ⟨b1, b2, b3, b4, b5, b6, b7, b8⟩ := hb
    simp only [longN, List.length_nil] at b1 b2 b3 b4 b5 b6 b7 b8
    subst b2
    obtain rfl : nams = [] := nil_of (by omega)
    obtain rfl : srcs = [] := nil_of (by omega)
    obtain rfl : loss = [] := nil_of (by omega)
    obtain rfl : firs = [] := nil_of (by omega)
    subst b7
    exact Or.inl ⟨so, ti, st, pa, oc, reps, rfl, by omega, l4⟩
  · have hbe : besC ⟨201, so, me, ti, st, pa, oc, reps, nams, srcs, loss, firs, ra⟩ = ⟨201, 0, me, ti, st, pa, oc, [], nams, srcs, loss, firs, ra⟩ := by simp [besC]
    rw [hbe] at hb
    obtain ⟨b1, b2, b3, b4, b5, b6, b7, b8⟩ := hb
    simp only [longN, List.length_nil] at b1 b2 b3 b4 b5 b6 b7 b8
    subst b2
    subst b6
    subst b3
    subst b4
    subst b5
    obtain rfl : nams = [] := nil_of (by omega)
    obtain rfl : srcs = [] := nil_of (by omega)
    obtain rfl : loss = [] := nil_of (by omega)
    obtain rfl : firs = [] := nil_of (by omega)
    subst b7
    exact Or.inr (Or.inl ⟨so, reps, rfl, by omega, l4⟩)
  · have hbe : besC ⟨202, so, me, ti, st, pa, oc, reps, nams, srcs, loss, firs, ra⟩ = ⟨202, so, me, ti, st, pa, oc, reps, [], srcs, loss, firs, ra⟩ := by simp [besC]
    rw [hbe] at hb
    obtain ⟨b1, b2, b3, b4, b5, b6, b7, b8⟩ := hb
    simp only [longN, List.length_nil] at b1 b2 b3 b4 b5 b6 b7 b8
    subst b1
    subst b2
    subst b6
    subst b3
    subst b4
    subst b5
    obtain rfl : reps = [] := nil_of (by omega)
    obtain rfl : srcs = [] := nil_of (by omega)
    obtain rfl : loss = [] := nil_of (by omega)
    obtain rfl : firs = [] := nil_of (by omega)
    subst b7
    exact Or.inr (Or.inr (Or.inl ⟨nams, rfl, by omega, l5⟩))
  · have hbe : besC ⟨203, so, me, ti, st, pa, oc, reps, nams, srcs, loss, firs, ra⟩ = ⟨203, so, me, ti, st, pa, oc, reps, nams, [], loss, firs, ra⟩ := by simp [besC]
    rw [hbe] at hb
    obtain ⟨b1, b2, b3, b4, b5, b6, b7, b8⟩ := hb
    simp only [longN, List.length_nil] at b1 b2 b3 b4 b5 b6 b7 b8
    subst b1
    subst b2
    subst b6
    subst b3
    subst b4
    subst b5
    obtain rfl : reps = [] := nil_of (by omega)
    obtain rfl : nams = [] := nil_of (by omega)
    obtain rfl : loss = [] := nil_of (by omega)
    obtain rfl : firs = [] := nil_of (by omega)
    subst b7
    exact Or.inr (Or.inr (Or.inr (Or.inl ⟨srcs, rfl, by omega⟩)))
  · have hbe : besC ⟨1, so, me, ti, st, pa, oc, reps, nams, srcs, loss, firs, ra⟩ = ⟨1, 0, 0, ti, st, pa, oc, reps, nams, srcs, [], firs, ra⟩ := by simp [besC]
    rw [hbe] at hb
    obtain ⟨b1, b2, b3, b4, b5, b6, b7, b8⟩ := hb
    simp only [longN, List.length_nil] at b1 b2 b3 b4 b5 b6 b7 b8
    subst b6
    subst b3
    subst b4
    subst b5
    obtain rfl : reps = [] := nil_of (by omega)
    obtain rfl : nams = [] := nil_of (by omega)
    obtain rfl : srcs = [] := nil_of (by omega)
    obtain rfl : firs = [] := nil_of (by omega)
    subst b7
    exact Or.inr (Or.inr (Or.inr (Or.inr (Or.inl ⟨so, me, loss, rfl, Nat.pos_of_ne_zero (fun h0 => l2 ⟨rfl, h0⟩), by omega⟩))))
  · have hbe : besC ⟨2, so, me, ti, st, pa, oc, reps, nams, srcs, loss, firs, ra⟩ = ⟨2, 0, 0, ti, st, pa, oc, reps, nams, srcs, loss, firs, ra⟩ := by simp [besC]
    rw [hbe] at hb
    obtain ⟨b1, b2, b3, b4, b5, b6, b7, b8⟩ := hb
    simp only [longN] at b1 b2 b3 b4 b5 b6 b7 b8
    subst b6
    subst b3
    subst b4
    subst b5
    obtain rfl : reps = [] := nil_of (by omega)
    obtain rfl : nams = [] := nil_of (by omega)
    obtain rfl : srcs = [] := nil_of (by omega)
    obtain rfl : loss = [] := nil_of (by omega)
    obtain rfl : firs = [] := nil_of (by omega)
    subst b7
    exact Or.inr (Or.inr (Or.inr (Or.inr (Or.inr (Or.inl ⟨so, me, rfl⟩)))))
  · have hbe : besC ⟨3, so, me, ti, st, pa, oc, reps, nams, srcs, loss, firs, ra⟩ = ⟨3, 0, me, ti, st, pa, oc, reps, nams, srcs, loss, [], ra⟩ := by simp [besC]
    rw [hbe] at hb
    obtain ⟨b1, b2, b3, b4, b5, b6, b7, b8⟩ := hb
    simp only [longN, List.length_nil] at b1 b2 b3 b4 b5 b6 b7 b8
    subst b2
    subst b6
    subst b3
    subst b4
    subst b5
    obtain rfl : reps = [] := nil_of (by omega)
    obtain rfl : nams = [] := nil_of (by omega)
    obtain rfl : srcs = [] := nil_of (by omega)
    obtain rfl : loss = [] := nil_of (by omega)
    subst b7
    exact Or.inr (Or.inr (Or.inr (Or.inr (Or.inr (Or.inr (Or.inl ⟨so, firs, rfl, Nat.pos_of_ne_zero (fun h0 => l3 ⟨rfl, h0⟩), by omega⟩))))))
  · have hbe : besC ⟨4, so, me, ti, st, pa, oc, reps, nams, srcs, loss, firs, ra⟩ = ⟨4, 0, me, ti, st, pa, oc, reps, nams, [], loss, firs, 0⟩ := by simp [besC]
    rw [hbe] at hb
    obtain ⟨b1, b2, b3, b4, b5, b6, b7, b8⟩ := hb
    simp only [longN, List.length_nil] at b1 b2 b3 b4 b5 b6 b7 b8
    subst b2
    subst b6
    subst b3
    subst b4
    subst b5
    obtain rfl : reps = [] := nil_of (by omega)
    obtain rfl : nams = [] := nil_of (by omega)
    obtain rfl : loss = [] := nil_of (by omega)
    obtain rfl : firs = [] := nil_of (by omega)
    exact Or.inr (Or.inr (Or.inr (Or.inr (Or.inr (Or.inr (Or.inr (⟨so, srcs, ra, rfl, by omega, hr.1, hr.2⟩)))))))
theorem mayK_iff (c : Ctl) : mayK c ↔ mayC c := by
  refine ⟨mayK_of, ?_⟩
  rintro (⟨so, ti, st, pa, oc, L, rfl, hL, hx⟩ | ⟨so, L, rfl, hL, hx⟩ | ⟨L, rfl, hL, hx⟩ | ⟨L, rfl, hL⟩ | ⟨so, me, L, rfl, h1, hL⟩ | ⟨so, me, rfl⟩ | ⟨so, L, rfl, h1, hL⟩ | ⟨so, L, ra, rfl, hL, hr1, hr2⟩)
  · exact ⟨by simp [knownK, mkSR], by simp [besC, mkSR, blankC, longN], ⟨by simp only [longN, mkSR, List.length_nil]; omega, by simp [mkSR], by simp [mkSR], hx, by simp [mkSR]⟩, rate0⟩
  · exact ⟨by simp [knownK, mkRR], by simp [besC, mkRR, blankC, longN], ⟨by simp only [longN, mkRR, List.length_nil]; omega, by simp [mkRR], by simp [mkRR], hx, by simp [mkRR]⟩, rate0⟩
  · exact ⟨by simp [knownK, mkSD], by simp [besC, mkSD, blankC, longN], ⟨by simp only [longN, mkSD, List.length_nil]; omega, by simp [mkSD], by simp [mkSD], by simp [mkSD], hx⟩, rate0⟩
  · exact ⟨by simp [knownK, mkBY], by simp [besC, mkBY, blankC, longN], ⟨by simp only [longN, mkBY, List.length_nil]; omega, by simp [mkBY], by simp [mkBY], by simp [mkBY], by simp [mkBY]⟩, rate0⟩
  · exact ⟨by simp [knownK, mkNA], by simp [besC, mkNA, blankC, longN], ⟨by simp only [longN, mkNA, List.length_nil]; omega, fun h => by have := h.2; simp only [mkNA] at this; omega, by simp [mkNA], by simp [mkNA], by simp [mkNA]⟩, rate0⟩
  · exact ⟨by simp [knownK, mkPL], by simp [besC, mkPL, blankC, longN], ⟨by simp only [longN, mkPL, List.length_nil]; omega, by simp [mkPL], by simp [mkPL], by simp [mkPL], by simp [mkPL]⟩, rate0⟩
  · exact ⟨by simp [knownK, mkFI], by simp [besC, mkFI, blankC, longN], ⟨by simp only [longN, mkFI, List.length_nil]; omega, by simp [mkFI], fun h => by have := h.2; simp only [mkFI] at this; omega, by simp [mkFI], by simp [mkFI]⟩, rate0⟩
  · exact ⟨by simp [knownK, mkRE], by simp [besC, mkRE, blankC, longN], ⟨by simp only [longN, mkRE, List.length_nil]; omega, by simp [mkRE], by simp [mkRE], by simp [mkRE], by simp [mkRE]⟩, ⟨hr1, hr2⟩⟩
end Go.Proofs.YtacaempcbdekaaaDoor
