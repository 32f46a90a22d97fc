/- Package rewrite: what the laws ask of it is so. No statement is proved here. -/
import Derived.Test.YtjlfokfdieafeaaRewP4
namespace Go.Proofs.Ytjlfokfdieafeaa
open Go.RowKit
set_option linter.unusedVariables false

theorem t22_stp {w w' : World} {g : Nat} {s2 : Wtr} {F : Nat → Prop} (hF : ∀ k, F k ↔ k = g) (h : PRew w' g s2 ∧ Fr (fun k => k = g) w w') : StpK T22 (.pointer (some ⟨g, 0, none⟩)) s2 F w w' :=
  ⟨F, ⟨g, rfl, h.1, hF⟩, h.2.mono (fun i hi => (hF i).2 hi), fun k hk => .inl hk⟩
theorem tells22 : Tells22 T22 where
  lone := lone22
  zero := ⟨_, zWr, fun w => ⟨w.heap.size, rfl, ⟨BlkV.new w _ (rwc 0 mz mz mz), fun h => (by cases h), (by decide : (0 : Int) ≤ 9223372036854775808)⟩, fun k => Iff.rfl⟩⟩
  start := fun w q s F f ⟨g, e, h, hF⟩ hf => by
    cases e
    refine (start_any22 g s f w h hf).mono ?_
    rintro e w' ⟨rfl, hk⟩
    exact ⟨rfl, Lib.hid (t22_stp hF ⟨hk.out.1, Fr.of_only hk.out.2 rfl⟩)⟩
  follow := fun w q s F x B ⟨g, e, h, hF⟩ ok hB hx hl => by
    cases e
    refine (follow_any22 g s x B w h ok (by omega) hx).mono ?_
    rintro e w' ⟨rfl, hk⟩
    exact ⟨rfl, Lib.hid (t22_stp hF hk.out)⟩
  map := fun w q s F x B ⟨g, e, h, hF⟩ ok hB hx hs hl => by
    cases e
    by_cases he : mapE s x = 0
    · refine (map_ok22 g s x B w h ok hB hx hs he).mono ?_
      rintro e w' ⟨rfl, hk⟩
      refine ⟨?_, Lib.hid (t22_stp hF hk.out)⟩
      have hy : mapY s x = plcW s x := by unfold mapY; rw [if_pos he]
      rw [hy, he]
    · refine (map_no22 g s x w h hx (by have := ok.th.1.1.2; omega) he).mono ?_
      rintro e w' ⟨rfl, hk⟩
      have hw : mapW s x = s := by unfold mapW; rw [if_neg he]
      refine ⟨?_, Lib.hid (t22_stp hF (by rw [hw]; exact hk.out))⟩
      have hy : mapY s x = mz := by unfold mapY; rw [if_neg he]
      rw [hy]
      rfl
  high := fun w q s F B ⟨g, e, h, hF⟩ ok hl => by
    cases e
    exact high_any22 g s B w h ok
end Go.Proofs.Ytjlfokfdieafeaa
