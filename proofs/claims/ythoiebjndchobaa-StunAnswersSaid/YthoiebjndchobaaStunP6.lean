/- Contracts of package stun: whether a message may be written; the closure that yields its attributes' bytes. No statement is proved here. -/
import Derived.Test.YthoiebjndchobaaStunP5
namespace Go.Proofs.Ythoiebjndchobaa
open Go.RowKit
set_option linter.unusedVariables false
attribute [local go_sem] Oper.semAt_some

set_option maxRecDepth 100000 in
set_option maxHeartbeats 2000000 in
theorem maybe_any (cs : List Value) (s : Stn) (w : World) (h : StnRd w cs s) (hf : s.fit) (hs : s.av.length ≤ 1000000) (t : Bool) (ht : t = true ↔ mayS s) :
    Calls Try.prog 20 #[.agg cs.toArray] w fun e w' => e = .returned (.bool t) ∧ Below w.heap.size w w' := by
  have hz := zeroAttr
  obtain ⟨A, c, h0, hA⟩ := h
  obtain ⟨ty, tx, L⟩ := s
  obtain ⟨f1, f2, f3⟩ := hf
  simp only at h0 hA f1 f2 f3 hs
  have b0 := BoxS.new 28 w cs
  have HB := Lib.hid b0
  obtain ⟨K, hK⟩ : ∃ K, K = L.length := ⟨_, rfl⟩
  rw [← hK] at h0 hs
  have c0 : ∀ wz, BoxS 28 w cs wz → wz.cell? ⟨w.heap.size, 0, none⟩ = some (.int .u16 (ty : Int)) := fun wz hz => (hz.2.cell 0).trans (by rw [h0]; rfl)
  have c13 : ∀ wz, BoxS 28 w cs wz → wz.cell? ⟨w.heap.size, 13, none⟩ = some (.slice A K c) := fun wz hz => (hz.2.cell 13).trans (by rw [h0]; exact sC_at13 _ _ _ f2)
  have q0 := c0 _ b0
  have q13 := c13 _ b0
  have HA := Lib.hid hA
  have HK := Lib.hid hK
  have HT := Lib.hid ht
  clear c0 c13 b0 hA hK f2 h0 ht
  by_cases g1 : (16384 : Int) ≤ (ty : Int)
  · have HF : t = false := by
      cases t with
      | false => rfl
      | true => have h2 := (HT.out.1 rfl).1; simp only at h2; omega
    subst HF
    clear HT
    go_enter Try.func20, Try.ntmps20
    go_wp2
    go_ret
    exact ⟨rfl, HB.out.1⟩
  by_cases g2 : (16 : Int) < (K : Int)
  · have HF : t = false := by
      cases t with
      | false => rfl
      | true => have h2 := (HT.out.1 rfl).2.1; simp only [← HK.out] at h2; omega
    subst HF
    clear HT
    go_enter Try.func20, Try.ntmps20
    go_wp2
    go_ret
    exact ⟨rfl, HB.out.1⟩
  go_enter Try.func20, Try.ntmps20
  go_wp2
  go_loopw [17] (fun i wr => ∃ k : Nat, k ≤ K ∧ i = .int .i64 k ∧ Hid (BoxS 28 w cs wr) ∧ Hid (∀ x ∈ L.take k, x.2.length ≤ 255)) (fun i _ => K - (intOf i).toNat)
  case atStart => exact ⟨0, by omega, rfl, HB, Lib.hid (by simp)⟩
  case round =>
    obtain ⟨k, hk, rfl, HS, HQ⟩ := hrel
    by_cases hkn : k < K
    · have hkl : k < L.length := by rw [← HK.out]; exact hkn
      obtain ⟨gb, go, D, d, rfl, hat, hrd⟩ := HA.out.at_ hkl
      obtain ⟨z0, z1⟩ := hat wr HS.out.1
      have HQ2 := Lib.hid (fun hy => takeA_snoc (P := fun x : Nat × List UInt8 => x.2.length ≤ 255) hkl HQ.out hy)
      have HNO : Hid (¬ L[k].2.length ≤ 255 → ¬ mayS ⟨ty, tx, L⟩) := Lib.hid (fun hn h => hn (h.2.2 _ (List.getElem_mem hkl)))
      have hk1 : hrd.len = hrd.len := rfl
      obtain ⟨y, hy⟩ : ∃ y, y = L[k] := ⟨_, rfl⟩
      have hsm := hrd.small
      rw [← hy] at z0 z1 HQ2 HNO hsm
      obtain ⟨x1, x2⟩ := y
      simp only at z0 z1 HQ2 HNO hsm
      obtain ⟨N, hN⟩ : ∃ N, N = x2.length := ⟨_, rfl⟩
      rw [← hN] at z1 HQ2 HNO hsm
      clear hat hrd hy hN hk1
      by_cases hbig : (255 : Int) < (N : Int)
      · have HF : t = false := by
          cases t with
          | false => rfl
          | true => exact absurd (HT.out.1 rfl) (HNO.out (by omega))
        subst HF
        clear HNO HT HQ2
        go_wp2
        go_ret
        exact ⟨rfl, HS.out.1.alloc HS.out.1.size _⟩
      · have HS255 := Lib.hid (HQ2.out (by omega))
        have HS2 : Hid (BoxS 28 w cs (wr.alloc (.cells #[.int .u16 (x1 : Int), .slice D N d] 47))) := Lib.hid (HS.out.on ((Below.refl _ _).alloc (Nat.le_refl _) _))
        clear HNO HQ2
        go_wp2
        go_roundw
        case rel => exact ⟨k + 1, by omega, by go_num, HS2, HS255⟩
        case measure => simp [intOf]; omega
    · obtain rfl : K = k := by omega
      have HF : t = true := HT.out.2 ⟨by simp only; omega, by simp only [← HK.out]; omega, by have := HQ.out; rw [HK.out, List.take_length] at this; exact this⟩
      subst HF
      clear HT
      go_wp2
      go_ret
      exact ⟨rfl, HS.out.1⟩
end Go.Proofs.Ythoiebjndchobaa
