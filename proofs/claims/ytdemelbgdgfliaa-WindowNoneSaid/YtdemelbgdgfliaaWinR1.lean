/- What the document's answers for layer 8 (tenailleref08) answer: contracts. No statement is proved here. -/
import Derived.Test.YtdemelbgdgfliaaWin2
import Derived.Test.YtdemelbgdgfliaaInts
import Derived.LoopTactic
namespace Go.Proofs.Ytdemelbgdgfliaa
open Go.RowKit
set_option linter.unusedVariables false

theorem take_next (L : List Int) (k : Nat) (h : k < L.length) : L.take (k + 1) = L.take k ++ [L.getD k 0] := by
  rw [List.take_succ_eq_append_getElem h]
  simp [List.getD, h]
/-- Block r is the reference's window, its row from block base on. -/
def RW (base r : Nat) (L : List Int) (w : World) : Prop :=
  ∃ A c, BlkV w r 30 [.slice A L.length c] ∧ w.ownsRow base 2 1 (.slice A L.length c) L.length (icells L)
theorem RW.lt {base r : Nat} {L : List Int} {w : World} (h : RW base r L w) : r < w.heap.size := by obtain ⟨_, _, hB, _⟩ := h; exact hB.lt
theorem RW.below {base r : Nat} {L : List Int} {w w' : World} (h : RW base r L w) (hb : Below w.heap.size w w') : RW base r L w' := by
  obtain ⟨A, c, hB, hO⟩ := h
  exact ⟨A, c, hB.below hb hB.lt, own_keep hO hb⟩
theorem RW.drew {base r : Nat} {L : List Int} {w : World} (h : RW base r L w) : RW base r L w.drew := h.below ((Below.refl _ _).drew)

theorem rhigh_any (base r : Nat) (L : List Int) (w : World) (h : RW base r L w) (hl : L.length ≤ 1000) :
    Calls Try.prog 13 #[.pointer (some ⟨r, 0, none⟩)] w fun e w' => e = .returned (.int .i64 (hiL L)) ∧ w = w' := by
  obtain ⟨A, c, hB, hO⟩ := h
  obtain ⟨n, hn⟩ : ∃ n, n = L.length := ⟨_, rfl⟩
  rw [← hn] at hB hO hl
  have hc : w.cell? ⟨r, 0, none⟩ = some (.slice A n c) := (hB.cell 0).trans rfl
  have h0 : hiL (L.take 0) = -1 := rfl
  have hN := Lib.hid hn
  clear hB hn
  go_enter Try.func13, Try.ntmps13
  go_wp2
  go_loop [3, 4] (fun vh vi => ∃ k : Nat, k ≤ n ∧ vh = .int .i64 (hiL (L.take k)) ∧ vi = .int .i64 k) (fun _ i => n - (intOf i).toNat)
  case atStart => exact ⟨0, by omega, rfl, rfl⟩
  case round =>
    obtain ⟨k, hk, rfl, rfl⟩ := hrel
    by_cases hlt : k < n
    · obtain ⟨b, c', hv, _, _, hcell⟩ := own_ints hO (by omega)
      injection hv with e1 e2 e3
      subst e1; subst e3
      have hck := hcell k hlt
      have hst := take_next L k (by rw [← hN.out]; exact hlt)
      have hs2 := hiL_snoc (L.take k) (L.getD k 0)
      rw [← hst] at hs2
      obtain ⟨y, hy⟩ : ∃ y, y = L.getD k 0 := ⟨_, rfl⟩
      obtain ⟨H, hH⟩ : ∃ H, H = hiL (L.take k) := ⟨_, rfl⟩
      obtain ⟨H2, hH2⟩ : ∃ H, H = hiL (L.take (k + 1)) := ⟨_, rfl⟩
      rw [← hy] at hck hs2
      rw [← hH] at hs2 ⊢
      rw [← hH2] at hs2
      have HH2 := Lib.hid hH2
      have hki : (k : Int) < (n : Int) := by omega
      clear hcell hy hH hH2 hst hO
      by_cases hgt : H < y
      · rw [if_pos hgt] at hs2
        subst hs2
        go_wp2
        go_round
        case rel => exact ⟨k + 1, by omega, by rw [← HH2.out], by go_num⟩
        case measure => simp [intOf]; omega
      · rw [if_neg hgt] at hs2
        subst hs2
        have hgt' : y ≤ H2 := by omega
        go_wp2
        go_round
        case rel => exact ⟨k + 1, by omega, by rw [← HH2.out], by go_num⟩
        case measure => simp [intOf]; omega
    · obtain rfl : k = n := by omega
      rw [List.take_of_length_le (by rw [← hN.out]; omega)]
      go_wp2
      go_ret
      exact ⟨rfl, rfl⟩

theorem fr_low {L : List Int} {x : Int} (h : x < 0 ∨ x + 64 ≤ hiL L) : frL L x = false := by
  rw [← Bool.not_eq_true, frL_iff]; intro h; omega
theorem fr_there {L : List Int} {k : Nat} (hk : k < L.length) : frL L (L.getD k 0) = false := by
  rw [← Bool.not_eq_true, frL_iff]
  intro h
  refine h.2.2 ?_
  rw [List.getD_eq_getElem?_getD, List.getElem?_eq_getElem hk, Option.getD_some]
  exact List.getElem_mem hk

theorem rfresh_any (base r : Nat) (L : List Int) (x : Int) (w : World) (h : RW base r L w) (hl : L.length ≤ 1000) (hx : -9223372036854775808 ≤ x ∧ x ≤ 4611686018427387904) (ht : hiL L ≤ 4611686018427387904) :
    Calls Try.prog 9 #[.pointer (some ⟨r, 0, none⟩), .int .i64 x] w fun e w' => e = .returned (.bool (frL L x)) ∧ w = w' := by
  have HH := Lib.hid (rhigh_any base r L w h hl)
  have hlow := hiL_low L
  obtain ⟨H, hH⟩ : ∃ H, H = hiL L := ⟨_, rfl⟩
  by_cases h0 : x < 0
  · rw [fr_low (.inl h0)]
    clear h
    go_enter Try.func9, Try.ntmps9
    go_wp2
    go_ret
    exact ⟨rfl, rfl⟩
  have h0' : 0 ≤ x := by omega
  by_cases h1 : x + 64 ≤ hiL L
  · rw [fr_low (.inr h1)]
    rw [← hH] at HH h1 hlow ht
    clear h hH h0
    go_enter Try.func9, Try.ntmps9
    go_wp2_with (go_at_call 13; ((with_reducible refine (Hid.out HH).mono ?_); rintro e w' ⟨rfl, rfl⟩))
    go_ret
    exact ⟨rfl, rfl⟩
  have h1' : hiL L < x + 64 := by omega
  have hfr : (∀ y ∈ L, y ≠ x) → frL L x = true := fun hy => by
    rw [frL_iff]
    exact ⟨h0', h1', fun hm => hy x hm rfl⟩
  have hth : ∀ k, k < L.length → L.getD k 0 = x → frL L x = false := fun k hk e => e ▸ fr_there hk
  rw [← hH] at HH h1' hlow ht
  obtain ⟨B, hBf⟩ : ∃ B, B = frL L x := ⟨_, rfl⟩
  simp only [← hBf] at hfr hth
  rw [← hBf]
  obtain ⟨A, c, hB, hO⟩ := h
  obtain ⟨n, hn⟩ : ∃ n, n = L.length := ⟨_, rfl⟩
  rw [← hn] at hB hO hl hth
  have hc : w.cell? ⟨r, 0, none⟩ = some (.slice A n c) := (hB.cell 0).trans rfl
  have hN := Lib.hid hn
  have HF := Lib.hid hfr
  have HT := Lib.hid hth
  clear hB hn hH h0 h1 hBf hfr hth
  go_enter Try.func9, Try.ntmps9
  go_wp2_with (go_at_call 13; ((with_reducible refine (Hid.out HH).mono ?_); rintro e w' ⟨rfl, rfl⟩))
  go_loop [5] (fun vi => ∃ k : Nat, k ≤ n ∧ Hid (∀ y ∈ L.take k, y ≠ x) ∧ vi = .int .i64 k) (fun i => n - (intOf i).toNat)
  case atStart => exact ⟨0, by omega, Lib.hid (by simp), rfl⟩
  case round =>
    obtain ⟨k, hk, hno, rfl⟩ := hrel
    by_cases hlt : k < n
    · obtain ⟨b, c', hv, _, _, hcell⟩ := own_ints hO (by omega)
      injection hv with e1 e2 e3
      subst e1; subst e3
      have hck := hcell k hlt
      have hst := take_next L k (by rw [← hN.out]; exact hlt)
      have HTk := Lib.hid (HT.out k hlt)
      have hki : (k : Int) < (n : Int) := by omega
      have HNO : Hid (L.getD k 0 ≠ x → ∀ y ∈ L.take (k + 1), y ≠ x) := Lib.hid fun hne y hy => by
        rw [hst] at hy
        rcases List.mem_append.1 hy with h | h
        · exact hno.out y h
        · rw [List.mem_singleton.1 h]; exact hne
      obtain ⟨y, hy⟩ : ∃ y, y = L.getD k 0 := ⟨_, rfl⟩
      rw [← hy] at hck HTk HNO
      clear hcell hy hst hno hO HT
      by_cases he : y = x
      · subst he
        have e := HTk.out rfl
        subst e
        clear HTk HNO HF
        go_wp2
        go_ret
        exact ⟨rfl, rfl⟩
      · have he' : (y == x) = false := by simpa using he
        have HNO' := Lib.hid (HNO.out he)
        clear HNO HTk he
        go_wp2
        go_round
        case rel => exact ⟨k + 1, by omega, HNO', by go_num⟩
        case measure => simp [intOf]; omega
    · obtain rfl : k = n := by omega
      have e := HF.out (fun y hy => hno.out y (by rw [List.take_of_length_le (by rw [← hN.out]; omega)]; exact hy))
      subst e
      clear hno
      go_wp2
      go_ret
      exact ⟨rfl, rfl⟩
end Go.Proofs.Ytdemelbgdgfliaa
