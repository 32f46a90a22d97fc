/- Whether a whole picture begins (Key of package avc), and all that the law asks of the package. No statement is proved here. -/
import Derived.Test.YtbifgglhhhcacaaAvcP3
namespace Go.Proofs.Ytbifgglhhhcacaa
open Go.RowKit
set_option linter.unusedVariables false

set_option maxRecDepth 100000 in
set_option maxHeartbeats 2000000 in
theorem key14_any (A : Option Addr) (n c : Nat) (bs : List UInt8) (w : World) (hr : RdS w A n c bs) (hn : n ≤ 100000) :
    Calls Try.prog 5 #[.slice A n c] w fun e w' => e = .returned (.bool (keyA bs)) ∧ Below w.heap.size w w' := by
  have hl := hr.len
  have hs := hr.small
  have hU := units14_any A n c bs w hr hn
  have hok := un_ok (bs := bs)
  obtain ⟨L, hL⟩ : ∃ L, L = (unitsA bs).1 := ⟨_, rfl⟩
  obtain ⟨q, hq⟩ : ∃ q, q = (unitsA bs).2 := ⟨_, rfl⟩
  obtain ⟨N, hN⟩ : ∃ N, N = L.length := ⟨_, rfl⟩
  have HKE0 : keyA bs = decide (q = 0 ∧ ¬ (bV bs 0 % 32 = 28 ∧ bV bs 1 < 128) ∧ ∃ u ∈ L, u = 5 ∨ u = 7 ∨ u = 8) := by
    unfold keyA
    rw [← hL, ← hq]
  have HUN : Hid (Calls Try.prog 6 #[.slice A n c] w fun e w' => ∃ A' c', e = .returned (.tuple #[.slice A' N c', .int .i64 (q : Int)]) ∧ RdI w' A' N (nI L) ∧ Below w.heap.size w w') := Lib.hid (hU.mono (fun e w' ⟨A', c', N', h1, h2, h3, h4⟩ => by
    rw [← hL, ← hN] at h1
    subst h1
    rw [← hq] at h2
    rw [← hL] at h3
    exact ⟨A', c', h2, h3, h4⟩))
  rw [← hq, hl] at hok
  have HCF : Hid (∀ (W : World) (A' : Option Addr) (c' : Nat), RdI W A' N (nI L) → Calls Try.prog 8 #[.slice A' N c', .func (.func 9) #[] #[]] W fun e w' => e = .returned (.bool (decide (∃ u ∈ L, u = 5 ∨ u = 7 ∨ u = 8))) ∧ W = w') := Lib.hid (fun W A' c' h => contains14_any A' N c' L W h)
  clear hU hL hq hN
  by_cases hq0 : (q : Int) = 0
  case neg =>
    have HE : Hid (keyA bs = false) := Lib.hid (by rw [HKE0]; exact decide_eq_false (fun h => absurd h.1 (by omega)))
    clear HKE0 hr hl hok HCF
    go_enter Try.func5, Try.ntmps5
    go_wp2_with (go_at_call 6; ((with_reducible refine (Hid.out HUN).mono ?_); rintro e w1 ⟨A1, c1, rfl, hri, hb1⟩; have f1 := Lib.hid hb1; clear hri hb1))
    go_ret
    exact ⟨by rw [HE.out]; rfl, f1.out⟩
  case pos =>
    obtain ⟨h1, h28⟩ := hok (by omega)
    obtain ⟨b, off, rfl, hlt, hcs⟩ := hr.2.2.2.2 (by omega)
    have HCS : Hid (∀ i, i < n → ∀ W, Below w.heap.size w W → W.cell? ⟨b, off + i, none⟩ = some (.int .u8 (bV bs i : Int))) := Lib.hid (fun i hi W hb => (hb.cell (p := ⟨b, off + i, none⟩) hlt).trans (hcs i hi))
    obtain ⟨x0, e0⟩ : ∃ x, x = bV bs 0 := ⟨_, rfl⟩
    obtain ⟨x1, e1⟩ : ∃ x, x = bV bs 1 := ⟨_, rfl⟩
    have l0 : x0 < 256 := by rw [e0]; exact bV_lt _ _
    have l1 : x1 < 256 := by rw [e1]; exact bV_lt _ _
    have HC0 : Hid (∀ W, Below w.heap.size w W → W.cell? ⟨b, off, none⟩ = some (.int .u8 (x0 : Int))) := Lib.hid (fun W hb => by rw [e0]; exact HCS.out 0 (by omega) W hb)
    have hn1 : (0 : Int) < (n : Int) := by omega
    rw [← e0, ← e1] at HKE0
    rw [← e0] at h28
    have HT : Hid (∀ W : World, Calls Try.prog 7 #[.int .u8 (x0 : Int)] W fun e w' => e = .returned (.int .i64 ((x0 % 32 : Nat) : Int)) ∧ W = w') := Lib.hid (fun W => type14_any x0 W l0)
    obtain ⟨z, hz⟩ : ∃ z, z = x0 % 32 := ⟨_, rfl⟩
    rw [← hz] at HT HKE0 h28
    have a128 := and128V x1 l1
    by_cases k28 : (z : Int) = 28
    · have h3 : 3 ≤ n := h28 (by omega)
      have hn2 : (1 : Int) < (n : Int) := by omega
      have HC1 : Hid (∀ W, Below w.heap.size w W → W.cell? ⟨b, off + 1, none⟩ = some (.int .u8 (x1 : Int))) := Lib.hid (fun W hb => by rw [e1]; exact HCS.out 1 (by omega) W hb)
      by_cases k1 : 128 ≤ x1
      · rw [if_pos k1] at a128
        have HE : Hid (keyA bs = decide (∃ u ∈ L, u = 5 ∨ u = 7 ∨ u = 8)) := Lib.hid (by rw [HKE0]; exact decide_eq_decide.2 ⟨fun h => h.2.2, fun h => ⟨by omega, by omega, h⟩⟩)
        clear hr hl hok e0 e1 hcs hlt h28 hz HKE0 k1
        go_enter Try.func5, Try.ntmps5
        go_wp2_with (first
          | (go_at_call 6; ((with_reducible refine (Hid.out HUN).mono ?_); rintro e w1 ⟨A1, c1, rfl, hri, hb1⟩; have f1 := Lib.hid hb1; have HRI := Lib.hid hri; have c0 := HC0.out _ hb1; have c1v := HC1.out _ hb1; clear hri hb1))
          | (go_at_call 7; ((with_reducible refine (HT.out _).mono ?_); rintro e w2 ⟨rfl, rfl⟩))
          | (go_at_call 8; ((with_reducible refine (HCF.out _ _ _ HRI.out).mono ?_); rintro e w2 ⟨rfl, rfl⟩)))
        go_ret
        exact ⟨by rw [HE.out]; rfl, f1.out⟩
      · rw [if_neg k1] at a128
        have HE : Hid (keyA bs = false) := Lib.hid (by rw [HKE0]; exact decide_eq_false (fun h => absurd h.2.1 (by omega)))
        clear hr hl hok e0 e1 hcs hlt h28 hz HKE0 k1 HCF
        go_enter Try.func5, Try.ntmps5
        go_wp2_with (first
          | (go_at_call 6; ((with_reducible refine (Hid.out HUN).mono ?_); rintro e w1 ⟨A1, c1, rfl, hri, hb1⟩; have f1 := Lib.hid hb1; have c0 := HC0.out _ hb1; have c1v := HC1.out _ hb1; clear hri hb1))
          | (go_at_call 7; ((with_reducible refine (HT.out _).mono ?_); rintro e w2 ⟨rfl, rfl⟩)))
        go_ret
        exact ⟨by rw [HE.out]; rfl, f1.out⟩
    · have HE : Hid (keyA bs = decide (∃ u ∈ L, u = 5 ∨ u = 7 ∨ u = 8)) := Lib.hid (by rw [HKE0]; exact decide_eq_decide.2 ⟨fun h => h.2.2, fun h => ⟨by omega, by omega, h⟩⟩)
      have b28 : ((z : Int) == 28) = false := by simpa using k28
      clear hr hl hok e0 e1 hcs hlt h28 hz HKE0 a128
      go_enter Try.func5, Try.ntmps5
      go_wp2_with (first
        | (go_at_call 6; ((with_reducible refine (Hid.out HUN).mono ?_); rintro e w1 ⟨A1, c1, rfl, hri, hb1⟩; have f1 := Lib.hid hb1; have HRI := Lib.hid hri; have c0 := HC0.out _ hb1; clear hri hb1))
        | (go_at_call 7; ((with_reducible refine (HT.out _).mono ?_); rintro e w2 ⟨rfl, rfl⟩))
        | (go_at_call 8; ((with_reducible refine (HCF.out _ _ _ HRI.out).mono ?_); rintro e w2 ⟨rfl, rfl⟩)))
      go_ret
      exact ⟨by rw [HE.out]; rfl, f1.out⟩
theorem tells14 : Tells14 (fun _ => True) := ⟨fun _ _ _ _ => trivial, fun A n c bs w _ hr hn => key14_any A n c bs w hr (by omega)⟩
end Go.Proofs.Ytbifgglhhhcacaa
