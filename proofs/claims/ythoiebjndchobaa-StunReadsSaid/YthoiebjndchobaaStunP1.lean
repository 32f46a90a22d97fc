/- Contracts of package stun: numbers known to be there, the number in its place, the attribute that bytes begin with. No statement is proved here. -/
import Derived.Test.YthoiebjndchobaaStunNum2
import Derived.Test.YthoiebjndchobaaStunR5
import Derived.Test.YthoiebjndchobaaCut
namespace Go.Proofs.Ythoiebjndchobaa
open Go.RowKit
set_option linter.unusedVariables false

theorem number_any (A : Option Addr) (n c : Nat) (bs : List UInt8) (p m : Nat) (pi mi : Int) (hpi : pi = p) (hmi : mi = m) (w : World) (hr : RdS w A n c bs) (h1 : 1 ≤ m) (h2 : m ≤ 8) (h3 : p + m ≤ n) :
    Calls Try.prog 17 #[.slice A n c, .int .i64 pi, .int .i64 mi] w fun e w' => e = .returned (.int .u64 (numb ((bs.drop p).take m))) ∧ w = w' := by
  subst hpi; subst hmi
  have H := Lib.hid (num_yes A n c bs p m w hr h1 h2 h3)
  clear hr
  go_enter Try.func17, Try.ntmps17
  go_wp2_with (go_at_call 26; ((with_reducible refine (Hid.out H).mono ?_); rintro e w' ⟨rfl, rfl⟩))
  go_ret
  exact ⟨rfl, rfl⟩

set_option maxRecDepth 100000 in
theorem is_any (A : Option Addr) (n c : Nat) (bs : List UInt8) (w : World) (hr : RdS w A n c bs) (t : Bool) (ht : t = true ↔ isB bs) :
    Calls Try.prog 10 #[.slice A n c] w fun e w' => e = .returned (.bool t) ∧ w = w' := by
  have hs := hr.small
  have hl := hr.len
  by_cases h20 : n < 20
  · have HF : t = false := by
      cases t with
      | false => rfl
      | true => have := (ht.1 rfl).1; omega
    subst HF
    clear ht hr
    go_enter Try.func10, Try.ntmps10
    go_wp2
    go_ret
    exact ⟨rfl, rfl⟩
  · obtain ⟨b, off, rfl, hlt, hcs⟩ := hr.2.2.2.2 (by omega)
    have c0 := hcs 0 (by omega)
    rw [Nat.add_zero] at c0
    have HN := Lib.hid (number_any (some ⟨b, off, none⟩) n c bs 4 4 4 4 rfl rfl w hr (by omega) (by omega) (by omega))
    obtain ⟨q, hq⟩ : ∃ q, q = numb ((bs.drop 4).take 4) := ⟨_, rfl⟩
    obtain ⟨x0, hx⟩ : ∃ x0, x0 = (bs.getD 0 0).toNat := ⟨_, rfl⟩
    have hx2 : x0 < 256 := by rw [hx]; exact UInt8.toNat_lt _
    rw [← hq] at HN
    rw [← hx] at c0
    have ht2 : Hid (t = true ↔ x0 / 64 = 0 ∧ q = 554869826) := Lib.hid (by
      rw [ht]
      unfold isB
      rw [← hq, ← hx]
      exact ⟨fun h => h.2, fun h => ⟨by omega, h⟩⟩)
    have hn20 : (20 : Int) ≤ (n : Int) := by omega
    clear ht hr hcs hq hx
    by_cases h64 : x0 / 64 = 0
    · have e1 : ((x0 : Int) / 64 == 0) = true := by simp; omega
      have eq : ((q : Int) == 554869826) = t := by
        cases t with
        | true => have := (ht2.out.1 rfl).2; simp; omega
        | false =>
          simp
          intro h
          exact absurd (ht2.out.2 ⟨h64, by omega⟩) (by simp)
      clear ht2
      go_enter Try.func10, Try.ntmps10
      go_wp2_with (go_at_call 17; ((with_reducible refine (Hid.out HN).mono ?_); rintro e w' ⟨rfl, rfl⟩))
      go_ret
      exact ⟨rfl, rfl⟩
    · have e1 : ((x0 : Int) / 64 == 0) = false := by simp; omega
      have HF : t = false := by
        cases t with
        | false => rfl
        | true => exact absurd (ht2.out.1 rfl).1 h64
      subst HF
      clear ht2
      go_enter Try.func10, Try.ntmps10
      go_wp2
      go_ret
      exact ⟨rfl, rfl⟩
end Go.Proofs.Ythoiebjndchobaa
