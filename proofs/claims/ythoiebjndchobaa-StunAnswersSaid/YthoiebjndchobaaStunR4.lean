/- What the document's answers for layer 12 (tenailleref12) tell: whether bytes look like a message (Is), two messages that are the same (Same). No statement is proved here. -/
import Derived.Test.YthoiebjndchobaaStunR2
import Derived.BigQuiet
namespace Go.Proofs.Ythoiebjndchobaa
open Go.RowKit
set_option linter.unusedVariables false

/-- Do bytes look like a message? -/
def isB (bs : List UInt8) : Prop := 20 ≤ bs.length ∧ (bs.getD 0 0).toNat / 64 = 0 ∧ numb ((bs.drop 4).take 4) = 554869826
theorem isMsg.isB {bs : List UInt8} {s : Stn} (h : isMsg bs s) : isB bs := by
  have hl := h.len
  obtain ⟨h1, h2, _⟩ := h.head
  have h3 := h.2.2.1
  refine ⟨by omega, ?_, h2⟩
  match bs, hl, h1 with
  | [], hl, _ => simp at hl; omega
  | [a], hl, _ => simp at hl; omega
  | a :: b :: r, _, h1 =>
    simp [numb] at h1
    have := b.toNat_lt
    simp
    omega
set_option maxRecDepth 100000 in
set_option maxHeartbeats 1000000 in
theorem ris_any (A : Option Addr) (n c : Nat) (bs : List UInt8) (w : World) (hr : RdS w A n c bs) (t : Bool) (ht : t = true ↔ isB bs) :
    Calls Try.prog 11 #[.slice A n c] w fun e w' => e = .returned (.bool t) ∧ w = w' := by
  have hl := hr.len
  have hs := hr.small
  by_cases h20 : (20 : Int) ≤ (n : Int)
  · obtain ⟨b, off, rfl, hlt, hcs⟩ := hr.2.2.2.2 (by omega)
    have c0 : w.cell? ⟨b, off, none⟩ = some (.int .u8 ((bs.getD 0 0).toNat : Int)) := by have := hcs 0 (by omega); simpa using this
    have HN : Hid (Calls Try.prog 19 #[.slice (some ⟨b, off, none⟩) n c, .int .i64 4, .int .i64 4] w fun e w' => e = .returned (.int .u64 (numb ((bs.drop 4).take 4) : Nat)) ∧ w = w') := Lib.hid (rnum_yes (some ⟨b, off, none⟩) n c bs 4 4 w hr (by omega) (by omega) (by omega))
    have hq256 : (bs.getD 0 0).toNat < 256 := UInt8.toNat_lt _
    obtain ⟨q, hq⟩ : ∃ q, q = (bs.getD 0 0).toNat := ⟨_, rfl⟩
    rw [← hq] at hq256
    obtain ⟨x, hx⟩ : ∃ x, x = numb ((bs.drop 4).take 4) := ⟨_, rfl⟩
    have hlen : 20 ≤ bs.length := by omega
    unfold isB at ht
    rw [← hq, ← hx] at ht
    rw [← hq] at c0
    rw [← hx] at HN
    clear hq hx hcs hr hl
    have ht2 : t = true ↔ (q / 64 = 0 ∧ x = 554869826) := by rw [ht]; exact ⟨fun h => h.2, fun h => ⟨hlen, h⟩⟩
    obtain ⟨Q, hQ⟩ : ∃ Q, Q = q / 64 := ⟨_, rfl⟩
    have eQ : ((q : Int) / 64 % 256) = (Q : Int) := by omega
    have HEQ := Lib.hid eQ
    clear eQ
    rw [← hQ] at ht2
    clear ht hlen hQ
    by_cases h1 : Q = 0
    · have g1 : ((q : Int) / 64 % 256) = 0 := by have := HEQ.out; omega
      by_cases h2 : x = 554869826
      · have g2 : (x : Int) = 554869826 := by omega
        have e := ht2.2 ⟨h1, h2⟩
        subst e
        clear ht2 h1 h2
        go_enter Try.func11, Try.ntmps11
        go_wp2_with (go_at_call 19; ((with_reducible refine (Hid.out HN).mono ?_); rintro e w1 ⟨rfl, rfl⟩))
        go_ret
        exact ⟨rfl, rfl⟩
      · have g2 : ((x : Int) == 554869826) = false := by simp; omega
        have e : t = false := by cases t with
          | false => rfl
          | true => exact absurd (ht2.1 rfl).2 h2
        subst e
        clear ht2 h1 h2
        go_enter Try.func11, Try.ntmps11
        go_wp2_with (go_at_call 19; ((with_reducible refine (Hid.out HN).mono ?_); rintro e w1 ⟨rfl, rfl⟩))
        go_ret
        exact ⟨rfl, rfl⟩
    · have g1 : ¬ ((q : Int) / 64 % 256) = 0 := by have := HEQ.out; omega
      have e : t = false := by cases t with
        | false => rfl
        | true => exact absurd (ht2.1 rfl).1 h1
      subst e
      clear ht2 h1 HN
      go_enter Try.func11, Try.ntmps11
      go_wp2
      go_ret
      exact ⟨rfl, rfl⟩
  · have e : t = false := by cases t with
      | false => rfl
      | true => exact absurd (ht.1 rfl).1 (by omega)
    subst e
    clear ht hr hl
    go_enter Try.func11, Try.ntmps11
    go_wp2
    go_ret
    exact ⟨rfl, rfl⟩
theorem eq12 (xs ys : List UInt8) (hx : xs.length = 12) (hy : ys.length = 12) (w : World) :
    (Op.equalIn 10000 25 (.agg (cells xs).toArray) (.agg (cells ys).toArray)).run Try.prog w = .ok (xs == ys) w := by
  refine run_equalIn_bytes w 9998 25 5 12 Try.underlying25 Try.underlying5 (fun w => ?_) xs ys hx hy
  kernel_rfl
theorem eq12_same (xs : List UInt8) (hx : xs.length = 12) (w : World) : (Op.equalIn 10000 25 (.agg (cells xs).toArray) (.agg (cells xs).toArray)).run Try.prog w = .ok true w := by
  rw [eq12 xs xs hx hx]; simp
theorem row12 {cs : List Value} (h : cs.length = 12) : RowTy Try.prog 25 cs.length := by
  rw [h]
  exact ⟨_, Try.underlying25, rfl, by kernel_rfl⟩
theorem sC_mid (ty : Nat) (tx : List UInt8) (v : Value) (h : tx.length = 12) : ∀ i, i < (cells tx).length → (sC ty tx v)[1 + i]? = (cells tx)[i]? := by
  intro i hi
  unfold sC
  rw [Nat.add_comm, List.getElem?_cons_succ, List.getElem?_append_left hi]
set_option maxRecDepth 100000 in
set_option maxHeartbeats 2000000 in
theorem rsame12_yes (cs1 cs2 : List Value) (s : Stn) (w : World) (h1 : StnRd w cs1 s) (h2 : StnRd w cs2 s) (hf : s.tx.length = 12) (hs : s.av.length ≤ 1000000) :
    Calls Try.prog 9 #[.agg cs1.toArray, .agg cs2.toArray] w fun r w' => r = .returned (.bool true) ∧ Below w.heap.size w w' := by
  obtain ⟨A1, c1, e1, a1⟩ := h1
  obtain ⟨A2, c2, e2, a2⟩ := h2
  obtain ⟨ty, tx, L⟩ := s
  simp only at e1 e2 a1 a2 hf hs
  have HA1 := Lib.hid a1
  have HA2 := Lib.hid a2
  have HB1 : Hid (BlkV ((w.alloc (.cells cs1.toArray 28)).alloc (.cells cs2.toArray 28)) w.heap.size 28 cs1) := Lib.hid ((BlkV.new w 28 cs1).alloc _)
  have HB2 : Hid (BlkV ((w.alloc (.cells cs1.toArray 28)).alloc (.cells cs2.toArray 28)) (w.heap.size + 1) 28 cs2) := Lib.hid (twoB w _ cs2 _)
  have HW : Hid (Below w.heap.size w ((w.alloc (.cells cs1.toArray 28)).alloc (.cells cs2.toArray 28))) := Lib.hid (twoBelow _ _ _)
  obtain ⟨K, hK⟩ : ∃ K, K = L.length := ⟨_, rfl⟩
  rw [← hK] at e1 e2 hs
  have HK := Lib.hid hK
  have k0 := (HB1.out.cell 0).trans (show cs1[0]? = some (.int .u16 (ty : Int)) by rw [e1]; rfl)
  have k13 := (HB1.out.cell 13).trans (show cs1[13]? = some (.slice A1 K c1) by rw [e1]; exact sC_at13 _ _ _ hf)
  have j0 := (HB2.out.cell 0).trans (show cs2[0]? = some (.int .u16 (ty : Int)) by rw [e2]; rfl)
  have j13 := (HB2.out.cell 13).trans (show cs2[13]? = some (.slice A2 K c2) by rw [e2]; exact sC_at13 _ _ _ hf)
  have Q13 : Hid (cs1[13]? = some (.slice A1 K c1)) := Lib.hid (by rw [e1]; exact sC_at13 _ _ _ hf)
  have P13 : Hid (cs2[13]? = some (.slice A2 K c2)) := Lib.hid (by rw [e2]; exact sC_at13 _ _ _ hf)
  have R1 := Lib.hid (HB1.out.range 1 (cells tx) (by rw [e1]; exact sC_mid ty tx _ hf))
  have R2 := Lib.hid (HB2.out.range 1 (cells tx) (by rw [e2]; exact sC_mid ty tx _ hf))
  have hq := eq12_same tx hf
  have H12 : Hid ((cells tx).length = 12) := Lib.hid (by rw [length_cells, hf])
  clear e1 e2 a1 a2 hK
  go_enter Try.func9, Try.ntmps9
  go_wp2_with (first
    | (with_reducible refine wpList_ldg (by with_unfolding_all rfl) 25 (.tmp 12) rfl w.heap.size 1 rfl (cells tx) R1.out (row12 H12.out) ?_)
    | (with_reducible refine wpList_ldg (by with_unfolding_all rfl) 25 (.tmp 14) rfl (w.heap.size + 1) 1 rfl (cells tx) R2.out (row12 H12.out) ?_))
  go_loopw [5] (fun i wx => ∃ k : Nat, k ≤ K ∧ i = .int .i64 k ∧ Hid (Below w.heap.size w wx ∧ BlkV wx w.heap.size 28 cs1 ∧ BlkV wx (w.heap.size + 1) 28 cs2)) (fun i _ => K - (intOf i).toNat)
  case atStart => exact ⟨0, by omega, rfl, Lib.hid ⟨HW.out, HB1.out, HB2.out⟩⟩
  case round =>
    obtain ⟨k, hk, rfl, HE⟩ := hrel
    have z13 := (HE.out.2.1.cell 13).trans Q13.out
    have y13 := (HE.out.2.2.cell 13).trans P13.out
    by_cases hkn : k < K
    · have hkl : k < L.length := by rw [← HK.out]; exact hkn
      obtain ⟨gb, go, D, d, rfl, hat, hrd⟩ := HA1.out.at_ hkl
      obtain ⟨gb2, go2, D2, d2, rfl, hat2, hrd2⟩ := HA2.out.at_ hkl
      obtain ⟨x, hx⟩ : ∃ x, x = L[k] := ⟨_, rfl⟩
      rw [← hx] at hat hrd hat2 hrd2
      obtain ⟨x1, x2⟩ := x
      simp only at hat hrd hat2 hrd2
      obtain ⟨N, hN⟩ : ∃ N, N = x2.length := ⟨_, rfl⟩
      rw [← hN] at hat hrd hat2 hrd2
      have C1 : ∀ wx, Below w.heap.size w wx → (convert 22 9 (.slice D N d)).run Try.prog wx = .ok (.string (txt x2)) wx := fun wx hb => run_conv (hrd.below hb) _ _ 5 Try.underlying22 Try.underlying5 Try.underlying9
      have C2 : ∀ wx, Below w.heap.size w wx → (convert 22 9 (.slice D2 N d2)).run Try.prog wx = .ok (.string (txt x2)) wx := fun wx hb => run_conv (hrd2.below hb) _ _ 5 Try.underlying22 Try.underlying5 Try.underlying9
      obtain ⟨a1, a2⟩ := hat wr HE.out.1
      obtain ⟨b1, b2⟩ := hat2 wr HE.out.1
      have v1 : ∀ q : Nat, (convert 22 9 (.slice D N d)).run Try.prog (wr.drewN q) = .ok (.string (txt x2)) (wr.drewN q) := fun q => C1 _ (below_drewN HE.out.1 q)
      have v2 : ∀ q : Nat, (convert 22 9 (.slice D2 N d2)).run Try.prog (wr.drewN q) = .ok (.string (txt x2)) (wr.drewN q) := fun q => C2 _ (below_drewN HE.out.1 q)
      have s1 : ((txt x2).toList == (txt x2).toList) = true := by simp
      clear hx hat hrd hat2 hrd2 hN C1 C2
      go_wp2
      go_quiet (fail)
      go_wp2
      go_roundw
      case rel => exact ⟨k + 1, by omega, by go_num, Lib.hid ⟨below_drewN HE.out.1 nq, HE.out.2.1.below (below_drewN (Below.refl _ _) nq) HE.out.2.1.lt, HE.out.2.2.below (below_drewN (Below.refl _ _) nq) HE.out.2.2.lt⟩⟩
      case measure => simp [intOf]; omega
    · obtain rfl : K = k := by omega
      clear hk hkn
      go_wp2
      go_ret
      exact ⟨rfl, HE.out.1⟩
end Go.Proofs.Ythoiebjndchobaa
