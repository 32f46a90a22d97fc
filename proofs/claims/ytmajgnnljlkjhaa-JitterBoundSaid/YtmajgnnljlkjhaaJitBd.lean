/- JitterBound's walk: the jitter isn't above the greatest difference. -/
import Derived.Test.YtmajgnnljlkjhaaJitLaw
namespace Go.Proofs.Ytmajgnnljlkjhaa
open Go.RowKit
set_option linter.unusedVariables false

/-- A gauge behind k packets, the last one z on its way, no two of them further apart than M. -/
structure BndJ (s : Ggd) (k : Nat) (z M : Int) : Prop where
  c : s.c = k
  y : 0 < k → s.y = z
  y0 : k = 0 → s.y = 0 ∧ s.x = 0
  x0 : 0 ≤ s.x
  x1 : s.x ≤ 16 * M + 7
theorem BndJ.start : BndJ ggd0 0 0 0 := ⟨rfl, fun h => absurd h (by omega), fun _ => ⟨rfl, rfl⟩, by decide, by decide⟩
theorem BndJ.ok {s : Ggd} {k : Nat} {z M : Int} (h : BndJ s k z M) (hz : 0 ≤ z ∧ z ≤ 65535) (hM : 0 ≤ M ∧ M ≤ 65535) (hk : k ≤ 200) : s.ok 1000000000 := by
  have a := h.c; have b := h.y; have c := h.y0; have d := h.x0; have e := h.x1
  by_cases h0 : k = 0
  · exact ⟨by rw [(c h0).1]; decide, by rw [(c h0).1]; decide, d, by omega, by omega, by omega, fun _ => c h0⟩
  · have := b (by omega)
    exact ⟨by omega, by omega, d, by omega, by omega, by omega, fun hc => by omega⟩
theorem difJ_near {a b : Int} (ha : 0 ≤ a ∧ a ≤ 65535) (hb : 0 ≤ b ∧ b ≤ 65535) : difJ a b = if b < a then a - b else b - a := by
  have : goneZ a b = b - a := by unfold goneZ; omega
  unfold difJ
  rw [this]
  split <;> split <;> omega
theorem smoJ_le {x d M : Int} (hx : 0 ≤ x) (hx1 : x ≤ 16 * M + 7) (hd : 0 ≤ d) (hd1 : d ≤ M) : 0 ≤ smoJ x d ∧ smoJ x d ≤ 16 * M + 7 := by
  unfold smoJ
  split <;> omega
theorem BndJ.first {s : Ggd} {z0 M : Int} (h : BndJ s 0 z0 M) (z : Int) (hM : 0 ≤ M) : BndJ (takJ s z) 1 z M := by
  have a := h.c; have c := h.y0 rfl
  refine ⟨by simp only [takJ]; omega, fun _ => rfl, fun h => absurd h (by omega), ?_, ?_⟩
  · simp only [takJ]; rw [if_pos (by omega)]; omega
  · simp only [takJ]; rw [if_pos (by omega)]; omega
theorem BndJ.next {s : Ggd} {k : Nat} {z0 M : Int} (h : BndJ s (k + 1) z0 M) (z d M' : Int) (hz0 : 0 ≤ z0 ∧ z0 ≤ 65535) (hz : 0 ≤ z ∧ z ≤ 65535) (hd : d = if z < z0 then z0 - z else z - z0) (hd1 : d ≤ M') (hM : M ≤ M') : BndJ (takJ s z) (k + 1 + 1) z M' := by
  have a := h.c; have b := h.y (by omega)
  have hx := h.x0; have hx1 := h.x1
  have e : difJ s.y z = d := by rw [b, difJ_near hz0 hz, hd]
  have d0 := (difJ_bd s.y z).1
  have hh := smoJ_le (M := M') hx (by omega) d0 (by omega)
  refine ⟨by simp only [takJ]; omega, fun _ => rfl, fun h => absurd h (by omega), ?_, ?_⟩
  · simp only [takJ]; rw [if_neg (by omega)]; exact hh.1
  · simp only [takJ]; rw [if_neg (by omega)]; exact hh.2

theorem drewN_belowJ {B : Nat} {w w' : World} (h : Below B w w') (n : Nat) : Below B w (w'.drewN n) := ⟨h.os, h.tape, h.output, h.size, h.block⟩

set_option maxRecDepth 100000 in
theorem jitterBound_walk (A : Option Addr) (n c : Nat) (zs : List Int) (w : World) (hr : RdK .u16 w A n zs) :
    Calls Try.prog 5 #[.slice A n c] w fun e w' => e = .returned (.bool true) ∧ Below w.heap.size w w' := by
  have HAL := Lib.hid (alive_anyJ w)
  have hz := zeroGauge
  have hns := hr.small
  have HR := Lib.hid hr
  clear hr
  go_enter Try.func5, Try.ntmps5
  go_wp2_with (go_at_call 6; ((with_reducible refine (Hid.out HAL).mono ?_); rintro e w0 ⟨rfl, b0⟩; have h0 := gau_new w0))
  have hb2 : Below w.heap.size w (w0.alloc (.cells #[.int .u32 0, .int .u64 0, .int .i64 0] 29)) := b0.alloc b0.size _
  have hg0 := b0.size
  obtain ⟨g, hg⟩ : ∃ g, g = w0.heap.size := ⟨_, rfl⟩
  rw [← hg] at h0 hg0 ⊢
  have H2 := Lib.hid (And.intro h0 hb2)
  have HG := Lib.hid hg0
  clear hg h0 hb2 b0 HAL hg0
  have HEND : Hid (∀ wx : World, Calls Try.prog 7 #[.pointer none, .int .u32 1, .int .u32 2] wx fun e w' => e = .returned (.tuple #[]) ∧ wx = w') := Lib.hid fun wx => take_noneJ 1 2 wx
  go_loopw [4, 5] (fun vm vi wr => ∃ (k : Nat) (M : Int) (s : Ggd), k ≤ n ∧ k ≤ 200 ∧ 0 ≤ M ∧ M ≤ 65535 ∧ vm = .int .u32 M ∧ vi = .int .i64 k ∧ Hid (BndJ s k (zs.getD (k - 1) 0) M) ∧ Hid (GauAt wr g s ∧ Below w.heap.size w wr)) (fun _ i _ => n - (intOf i).toNat)
  case atStart => exact ⟨0, 0, ggd0, by omega, by omega, by omega, by omega, rfl, rfl, Lib.hid ⟨rfl, fun h => absurd h (by omega), fun _ => ⟨rfl, rfl⟩, by decide, by decide⟩, H2⟩
  case round =>
    clear H2
    obtain ⟨k, M, s, hk, hk2, hM0, hM1, rfl, rfl, HS, HE⟩ := hrel
    by_cases hlt : k < n
    · by_cases h2 : k < 200
      · have hki : (k : Int) < (n : Int) := by omega
        have hk2i : (k : Int) < 200 := by omega
        obtain ⟨b, off, rfl, hcs⟩ := HR.out.at_ (by omega)
        have bz := bounds_u16 (HR.out.wf hlt)
        have HE1 := Lib.hid HE.out.1
        have HE2 := Lib.hid HE.out.2
        have hk100 : 0 ≤ (k : Int) * 100 ∧ (k : Int) * 100 ≤ 20000 := by omega
        have hway : ((k : Int) * 100 + zs.getD k 0 - (k : Int) * 100) % 4294967296 = zs.getD k 0 := by omega
        by_cases h0 : k = 0
        · subst h0
          have hS := HS.out
          have hN := hS.first (zs.getD 0 0) hM0
          have oks : s.ok 1000000000 := BndJ.ok (z := 0) ⟨hS.c, fun h => absurd h (by omega), hS.y0, hS.x0, hS.x1⟩ (by decide) ⟨hM0, hM1⟩ (by omega)
          obtain ⟨z, hz'⟩ : ∃ z, z = zs.getD 0 0 := ⟨_, rfl⟩
          have hc : wr.cell? ⟨b, off, none⟩ = some (.int .u16 (zs.getD 0 0)) := hcs wr HE.out.2 0 hlt
          rw [← hz'] at hN bz hway hc
          have hway2 : (z - 0) % 4294967296 = z := by omega
          obtain ⟨s2, hs2⟩ : ∃ s2, s2 = takJ s z := ⟨_, rfl⟩
          rw [← hs2] at hN
          have T := Lib.hid (tak_isJ s s2 z 0 (by rw [hway2, hs2]) oks (by omega) (by omega) (by decide) (by decide) g)
          have hx0 := hN.x0; have hx1 := hN.x1
          have N1 := Lib.hid (fun wx (h : GauAt wx g s2) => now_anyJ g s2 wx h hx0 (by omega))
          obtain ⟨q, hq⟩ : ∃ q, q = s2.x / 16 := ⟨_, rfl⟩
          have hq0 : 0 ≤ q ∧ q ≤ M := by omega
          rw [← hq] at N1
          have HN : Hid (BndJ s2 (0 + 1) (zs.getD (0 + 1 - 1) 0) M) := Lib.hid (by rw [hz'] at hN; exact hN)
          clear hcs hway hway2 hs2 hx0 hx1 hq hN hS hz' oks HS
          go_wp2_with (first
            | (go_at_call 7; ((with_reducible refine (Hid.out T _ HE1.out).mono ?_); rintro e w3 ⟨rfl, h3, o3⟩; have bb3 := HE2.out.trans (o3.below HG.out)))
            | (go_at_call 10; ((with_reducible refine (Hid.out N1 _ h3).mono ?_); rintro e w4 ⟨rfl, rfl⟩)))
          go_roundw
          case rel => exact ⟨0 + 1, M, s2, by omega, by omega, hM0, hM1, rfl, by go_num, HN, Lib.hid ⟨h3, bb3⟩⟩
          case measure => simp [intOf]; omega
        · obtain ⟨j, rfl⟩ : ∃ j, k = j + 1 := ⟨k - 1, by omega⟩
          have hS := HS.out
          have bz0 := bounds_u16 (HR.out.wf (j := j) (by omega))
          obtain ⟨z, hz'⟩ : ∃ z, z = zs.getD (j + 1) 0 := ⟨_, rfl⟩
          obtain ⟨y, hy'⟩ : ∃ y, y = zs.getD j 0 := ⟨_, rfl⟩
          have HC : Hid (∀ wx, Below w.heap.size w wx → wx.cell? ⟨b, off + (j + 1), none⟩ = some (.int .u16 z) ∧ wx.cell? ⟨b, off + j, none⟩ = some (.int .u16 y)) := Lib.hid fun wx hb => by
            rw [hz', hy']; exact ⟨hcs wx hb (j + 1) hlt, hcs wx hb j (by omega)⟩
          rw [← hz'] at bz hway
          rw [show j + 1 - 1 = j by omega, ← hy'] at hS
          rw [← hy'] at bz0
          obtain ⟨d, hd⟩ : ∃ d, d = if z < y then y - z else z - y := ⟨_, rfl⟩
          have hd0 : 0 ≤ d ∧ d ≤ 65535 := by rw [hd]; split <;> omega
          obtain ⟨M2, hM2⟩ : ∃ M2, M2 = if M < d then d else M := ⟨_, rfl⟩
          have hM20 : 0 ≤ M2 ∧ M2 ≤ 65535 ∧ d ≤ M2 ∧ M ≤ M2 := by rw [hM2]; split <;> omega
          have hN := hS.next z d M2 bz0 bz hd hM20.2.2.1 hM20.2.2.2
          have oks : s.ok 1000000000 := hS.ok bz0 ⟨hM0, hM1⟩ (by omega)
          obtain ⟨s2, hs2⟩ : ∃ s2, s2 = takJ s z := ⟨_, rfl⟩
          rw [← hs2] at hN
          have hJ : ((j + 1 : Nat) : Int) = (j : Int) + 1 := by omega
          rw [hJ] at hki hk2i hk100 hway
          have T := Lib.hid (tak_isJ s s2 (((j : Int) + 1) * 100 + z) (((j : Int) + 1) * 100) (by rw [hway, hs2]) oks (by omega) (by omega) (by omega) (by omega) g)
          have hx0 := hN.x0; have hx1 := hN.x1
          have N1 := Lib.hid (fun wx (h : GauAt wx g s2) => now_anyJ g s2 wx h hx0 (by omega))
          obtain ⟨q, hq⟩ : ∃ q, q = s2.x / 16 := ⟨_, rfl⟩
          have hq0 : 0 ≤ q ∧ q ≤ M2 := by omega
          rw [← hq] at N1
          have HN : Hid (BndJ s2 (j + 1 + 1) (zs.getD (j + 1 + 1 - 1) 0) M2) := Lib.hid (by rw [hz'] at hN; exact hN)
          clear hcs hway hs2 hx0 hx1 hq hN hS hz' hy' oks HS h0
          have c1 := (HC.out wr HE.out.2).1
          have c2 := (HC.out wr HE.out.2).2
          by_cases hzy : z < y
          · rw [if_pos hzy] at hd
            have hdm : (y - z) % 4294967296 = d := by omega
            clear hd
            go_wp2
            go_quiet (fail)
            obtain ⟨W1, hW1, k11, k12, g1, b1⟩ : ∃ W : World, W = wr.drewN nq ∧ W.cell? ⟨b, off + (j + 1), none⟩ = some (.int .u16 z) ∧ W.cell? ⟨b, off + j, none⟩ = some (.int .u16 y) ∧ Hid (GauAt W g s) ∧ Hid (Below w.heap.size w W) := ⟨_, rfl, c1, c2, Lib.hid HE1.out, Lib.hid (drewN_belowJ HE2.out _)⟩
            rw [← hW1]
            clear hW1
            go_wp2
            go_quiet (fail)
            obtain ⟨W2, hW2, k21, k22, g2, b2⟩ : ∃ W : World, W = W1.drewN nq ∧ W.cell? ⟨b, off + (j + 1), none⟩ = some (.int .u16 z) ∧ W.cell? ⟨b, off + j, none⟩ = some (.int .u16 y) ∧ Hid (GauAt W g s) ∧ Hid (Below w.heap.size w W) := ⟨_, rfl, k11, k12, Lib.hid g1.out, Lib.hid (drewN_belowJ b1.out _)⟩
            rw [← hW2]
            clear hW2
            go_wp2
            go_quiet (fail)
            obtain ⟨W3, hW3, k31, k32, g3, b3⟩ : ∃ W : World, W = W2.drewN nq ∧ W.cell? ⟨b, off + (j + 1), none⟩ = some (.int .u16 z) ∧ W.cell? ⟨b, off + j, none⟩ = some (.int .u16 y) ∧ Hid (GauAt W g s) ∧ Hid (Below w.heap.size w W) := ⟨_, rfl, k21, k22, Lib.hid g2.out, Lib.hid (drewN_belowJ b2.out _)⟩
            rw [← hW3]
            clear hW3
            by_cases hMd : M < d
            · rw [if_pos hMd] at hM2
              subst hM2
              go_wp2_with (first
                | (go_at_call 7; ((with_reducible refine (Hid.out T _ g3.out).mono ?_); rintro e w3 ⟨rfl, h3, o3⟩; have bb3 := b3.out.trans (o3.below HG.out)))
                | (go_at_call 10; ((with_reducible refine (Hid.out N1 _ h3).mono ?_); rintro e w4 ⟨rfl, rfl⟩)))
              go_roundw
              case rel => exact ⟨j + 1 + 1, _, s2, by omega, by omega, hM20.1, hM20.2.1, by first | rfl | (congr 1; omega), by go_num, HN, Lib.hid ⟨h3, bb3⟩⟩
              case measure => simp [intOf]; omega
            · rw [if_neg hMd] at hM2
              subst hM2
              have hMd' : d ≤ M2 := by omega
              go_wp2_with (first
                | (go_at_call 7; ((with_reducible refine (Hid.out T _ g3.out).mono ?_); rintro e w3 ⟨rfl, h3, o3⟩; have bb3 := b3.out.trans (o3.below HG.out)))
                | (go_at_call 10; ((with_reducible refine (Hid.out N1 _ h3).mono ?_); rintro e w4 ⟨rfl, rfl⟩)))
              go_roundw
              case rel => exact ⟨j + 1 + 1, _, s2, by omega, by omega, hM20.1, hM20.2.1, by first | rfl | (congr 1; omega), by go_num, HN, Lib.hid ⟨h3, bb3⟩⟩
              case measure => simp [intOf]; omega
          · rw [if_neg hzy] at hd
            have hzy' : y ≤ z := by omega
            have hdm : (z - y) % 4294967296 = d := by omega
            clear hd
            go_wp2
            go_quiet (fail)
            obtain ⟨W1, hW1, k11, k12, g1, b1⟩ : ∃ W : World, W = wr.drewN nq ∧ W.cell? ⟨b, off + (j + 1), none⟩ = some (.int .u16 z) ∧ W.cell? ⟨b, off + j, none⟩ = some (.int .u16 y) ∧ Hid (GauAt W g s) ∧ Hid (Below w.heap.size w W) := ⟨_, rfl, c1, c2, Lib.hid HE1.out, Lib.hid (drewN_belowJ HE2.out _)⟩
            rw [← hW1]
            clear hW1
            go_wp2
            go_quiet (fail)
            obtain ⟨W2, hW2, k21, k22, g2, b2⟩ : ∃ W : World, W = W1.drewN nq ∧ W.cell? ⟨b, off + (j + 1), none⟩ = some (.int .u16 z) ∧ W.cell? ⟨b, off + j, none⟩ = some (.int .u16 y) ∧ Hid (GauAt W g s) ∧ Hid (Below w.heap.size w W) := ⟨_, rfl, k11, k12, Lib.hid g1.out, Lib.hid (drewN_belowJ b1.out _)⟩
            rw [← hW2]
            clear hW2
            by_cases hMd : M < d
            · rw [if_pos hMd] at hM2
              subst hM2
              go_wp2_with (first
                | (go_at_call 7; ((with_reducible refine (Hid.out T _ g2.out).mono ?_); rintro e w3 ⟨rfl, h3, o3⟩; have bb3 := b2.out.trans (o3.below HG.out)))
                | (go_at_call 10; ((with_reducible refine (Hid.out N1 _ h3).mono ?_); rintro e w4 ⟨rfl, rfl⟩)))
              go_roundw
              case rel => exact ⟨j + 1 + 1, _, s2, by omega, by omega, hM20.1, hM20.2.1, by first | rfl | (congr 1; omega), by go_num, HN, Lib.hid ⟨h3, bb3⟩⟩
              case measure => simp [intOf]; omega
            · rw [if_neg hMd] at hM2
              subst hM2
              have hMd' : d ≤ M2 := by omega
              go_wp2_with (first
                | (go_at_call 7; ((with_reducible refine (Hid.out T _ g2.out).mono ?_); rintro e w3 ⟨rfl, h3, o3⟩; have bb3 := b2.out.trans (o3.below HG.out)))
                | (go_at_call 10; ((with_reducible refine (Hid.out N1 _ h3).mono ?_); rintro e w4 ⟨rfl, rfl⟩)))
              go_roundw
              case rel => exact ⟨j + 1 + 1, _, s2, by omega, by omega, hM20.1, hM20.2.1, by first | rfl | (congr 1; omega), by go_num, HN, Lib.hid ⟨h3, bb3⟩⟩
              case measure => simp [intOf]; omega
      · obtain rfl : k = 200 := by omega
        have hki : (200 : Int) < (n : Int) := by omega
        go_wp2_with (first
          | (go_at_call 7; ((with_reducible refine (Hid.out HEND _).mono ?_); rintro e w2 ⟨rfl, rfl⟩))
          | (go_at_call 10; ((with_reducible refine (now_noneJ _).mono ?_); rintro e w4 ⟨rfl, rfl⟩))
          | (go_at_call 9; ((with_reducible refine (sixteen_noneJ _).mono ?_); rintro e w5 ⟨rfl, rfl⟩))
          | (go_at_call 11; ((with_reducible refine (count_noneJ _).mono ?_); rintro e w6 ⟨rfl, rfl⟩)))
        go_ret
        exact ⟨rfl, HE.out.2⟩
    · obtain rfl : k = n := by omega
      go_wp2_with (first
        | (go_at_call 7; ((with_reducible refine (Hid.out HEND _).mono ?_); rintro e w2 ⟨rfl, rfl⟩))
        | (go_at_call 10; ((with_reducible refine (now_noneJ _).mono ?_); rintro e w4 ⟨rfl, rfl⟩))
        | (go_at_call 9; ((with_reducible refine (sixteen_noneJ _).mono ?_); rintro e w5 ⟨rfl, rfl⟩))
        | (go_at_call 11; ((with_reducible refine (count_noneJ _).mono ?_); rintro e w6 ⟨rfl, rfl⟩)))
      go_ret
      exact ⟨rfl, HE.out.2⟩
end Go.Proofs.Ytmajgnnljlkjhaa
