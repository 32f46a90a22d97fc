/- Contracts of package avc: a unit's type, and the types of several units. No statement is proved here. -/
import Derived.Test.YtbifgglhhhcacaaAvcR2
import Derived.Test.YtbifgglhhhcacaaCut
namespace Go.Proofs.Ytbifgglhhhcacaa
open Go.RowKit
set_option linter.unusedVariables false

theorem and31V (x : Nat) (h : x < 256) : bits .and .u8 (x : Int) 31 = ((x % 32 : Nat) : Int) := by
  have e : ∀ x : Fin 256, x.val &&& 31 = x.val % 32 := by decide +kernel
  rw [show (31 : Int) = ((31 : Nat) : Int) from rfl, u8_and_nat _ _ h (by omega), e ⟨x, h⟩]
theorem type14_any (x : Nat) (w : World) (hx : x < 256) : Calls Try.prog 7 #[.int .u8 (x : Int)] w fun e w' => e = .returned (.int .i64 ((x % 32 : Nat) : Int)) ∧ w = w' := by
  have h := and31V x hx
  obtain ⟨z, hz⟩ : ∃ z, z = x % 32 := ⟨_, rfl⟩
  rw [← hz] at h ⊢
  have lz : z < 32 := by omega
  clear hz
  go_enter Try.func7, Try.ntmps7
  go_wp2
  go_ret
  exact ⟨rfl, rfl⟩
theorem isUnit14_any (x : Nat) (w : World) (hx : x < 32) : Calls Try.prog 10 #[.int .i64 (x : Int)] w fun e w' => e = .returned (.bool (decide (1 ≤ x ∧ x ≤ 23))) ∧ w = w' := by
  by_cases h1 : (1 : Int) ≤ (x : Int)
  · by_cases h2 : (x : Int) ≤ 23
    · have e : decide (1 ≤ x ∧ x ≤ 23) = true := by simp; omega
      rw [e]
      go_enter Try.func10, Try.ntmps10
      go_wp2
      go_ret
      exact ⟨rfl, rfl⟩
    · have e : decide (1 ≤ x ∧ x ≤ 23) = false := by simp; omega
      have e2 : decide ((x : Int) ≤ 23) = false := by simp; omega
      rw [e]
      go_enter Try.func10, Try.ntmps10
      go_wp2
      go_ret
      exact ⟨rfl, rfl⟩
  · have e : decide (1 ≤ x ∧ x ≤ 23) = false := by simp; omega
    rw [e]
    go_enter Try.func10, Try.ntmps10
    go_wp2
    go_ret
    exact ⟨rfl, rfl⟩
theorem begins14_any (u : Nat) (w : World) : Calls Try.prog 9 #[.int .i64 (u : Int)] w fun e w' => e = .returned (.bool (decide (u = 5 ∨ u = 7 ∨ u = 8))) ∧ w = w' := by
  by_cases h5 : (u : Int) = 5
  · have e : decide (u = 5 ∨ u = 7 ∨ u = 8) = true := by simp; omega
    rw [e]
    go_enter Try.func9, Try.ntmps9
    go_wp2
    go_ret
    exact ⟨rfl, rfl⟩
  · by_cases h7 : (u : Int) = 7
    · have e : decide (u = 5 ∨ u = 7 ∨ u = 8) = true := by simp; omega
      rw [e]
      go_enter Try.func9, Try.ntmps9
      go_wp2
      go_ret
      exact ⟨rfl, rfl⟩
    · by_cases h8 : (u : Int) = 8
      · have e : decide (u = 5 ∨ u = 7 ∨ u = 8) = true := by simp; omega
        rw [e]
        go_enter Try.func9, Try.ntmps9
        go_wp2
        go_ret
        exact ⟨rfl, rfl⟩
      · have e : decide (u = 5 ∨ u = 7 ∨ u = 8) = false := by simp; omega
        rw [e]
        go_enter Try.func9, Try.ntmps9
        go_wp2
        go_ret
        exact ⟨rfl, rfl⟩
theorem numb_two (ys : List UInt8) (h : 2 ≤ ys.length) : numb ((ys.drop 0).take 2) = 256 * bV ys 0 + bV ys 1 := by
  match ys, h with
  | x :: y :: t, _ => simp [numb, bV]; omega
theorem bV_drop (bs : List UInt8) (a i : Nat) : bV (bs.drop a) i = bV bs (a + i) := by simp [bV, List.getD]
/-- The document's next step, behind a units' place. -/
theorem avGo_next (bs : List UInt8) (k a : Nat) (acc : List Nat) : avGo bs (k + 1) acc a = if bs.length < a + 2 then ([], 2)
      else if 256 * bV bs a + bV bs (a + 1) = 0 then ([], 3)
      else if bs.length < a + 2 + (256 * bV bs a + bV bs (a + 1)) then ([], 2)
      else if bV bs (a + 2) % 32 = 0 then ([], 3)
      else if a + 2 + (256 * bV bs a + bV bs (a + 1)) = bs.length then (acc ++ [bV bs (a + 2) % 32], 0)
      else avGo bs k (acc ++ [bV bs (a + 2) % 32]) (a + 2 + (256 * bV bs a + bV bs (a + 1))) := rfl
/-- Where several stands: all units told (no more bytes), or more to come. -/
def Sv (bs : List UInt8) (L m M a : Nat) (acc : List Nat) : Prop := (m = 0 ∧ 0 < M ∧ unitsA bs = (acc, 0)) ∨ ((0 < m ∨ M = 0) ∧ ∃ k, L - a < k ∧ unitsA bs = avGo bs k acc a)
set_option maxRecDepth 100000 in
set_option maxHeartbeats 2000000 in
theorem several14_any (A : Option Addr) (n c : Nat) (bs : List UInt8) (w : World) (hr : RdS w A n c (bs.drop 1)) (hL : bs.length = n + 1) (hn : n ≤ 100000) (hu : unitsA bs = avGo bs bs.length [] 1) :
    Calls Try.prog 11 #[.slice A n c] w (U14 bs w) := by
  have HU := Lib.hid hu
  have HL := Lib.hid hL
  have HR := Lib.hid hr
  clear hr hL hu
  go_enter Try.func11, Try.ntmps11
  go_wp2
  go_step3
  go_wp2
  go_step3
  go_wp2
  go_loopw [4, 5] (fun v r wr => ∃ (M a m : Nat) (acc : List Nat) (A' : Option Addr) (c' : Nat) (A2 : Option Addr) (c2 : Nat), a + m = n + 1 ∧ M ≤ a ∧ v = .slice A' M c' ∧ r = .slice A2 m c2 ∧ Hid (Sv bs (n + 1) m M a acc ∧ M = acc.length ∧ ∀ x ∈ acc, x < 32) ∧ Hid (wr.ownsRow w.heap.size 3 1 (.slice A' M c') M (icells (nI acc)) ∧ Below w.heap.size w wr ∧ RdS w A2 m c2 (bs.drop a))) (fun _ r _ => match r with | .slice _ q _ => q | _ => 0)
  case atStart => exact ⟨0, 1, n, [], none, 0, A, c, by omega, by omega, rfl, rfl, Lib.hid ⟨.inr ⟨.inr rfl, n + 1, by omega, by rw [HU.out, HL.out]⟩, rfl, by simp⟩, Lib.hid ⟨World.ownsRow_nil w _ _ _, Below.refl _ _, HR.out⟩⟩
  case round =>
    obtain ⟨M, a, m, acc, A1, c1, A2, c2, ha, hM, rfl, rfl, HG, HO⟩ := hrel
    have hsm := HO.out.2.2.small
    have hrd : RdS wr A2 m c2 (bs.drop a) := HO.out.2.2.below HO.out.2.1
    have HRD := Lib.hid hrd
    have HB := Lib.hid HO.out.2.1
    have hsz := HO.out.2.1.size
    clear hrd
    by_cases hdone : m = 0 ∧ 0 < M
    · obtain ⟨rfl, hM0⟩ := hdone
      have hMi : (0 : Int) < (M : Int) := by omega
      have hu : Hid (unitsA bs = (acc, 0)) := Lib.hid (by
        rcases HG.out.1 with h | h
        · exact h.2.2
        · exact absurd h.1 (by omega))
      go_wp2_with (go_at_call 14; ((with_reducible refine (num_no A2 0 c2 _ 0 2 wr HRD.out (by omega)).mono ?_); rintro e w1 ⟨rfl, rfl⟩))
      go_ret2
      exact U14.row hu.out HG.out.2.2 HG.out.2.1 (by omega) HO.out.1 HB.out
    · have hun : Hid (∃ k, n + 1 - a < k + 1 ∧ unitsA bs = avGo bs (k + 1) acc a) := Lib.hid (by
        rcases HG.out.1 with h | ⟨_, k, h1, h2⟩
        · exact absurd ⟨h.1, h.2.1⟩ hdone
        · exact ⟨k - 1, by omega, by rw [h2]; congr 1; omega⟩)
      by_cases h2 : m < 2
      · have hno : Hid (unitsA bs = ([], 2)) := Lib.hid (by
          obtain ⟨k, h3, h4⟩ := hun.out
          rw [h4, avGo_next, if_pos (by rw [HL.out]; omega)])
        by_cases h0 : m = 0
        · subst h0
          have hM0 : M = 0 := by omega
          subst hM0
          go_wp2_with (go_at_call 14; ((with_reducible refine (num_no A2 0 c2 _ 0 2 wr HRD.out (by omega)).mono ?_); rintro e w1 ⟨rfl, rfl⟩))
          go_ret2
          exact U14.no hno.out HB.out
        · have hm1 : m = 1 := by omega
          subst hm1
          go_wp2_with (go_at_call 14; ((with_reducible refine (num_no A2 1 c2 _ 0 2 wr HRD.out (by omega)).mono ?_); rintro e w1 ⟨rfl, rfl⟩))
          go_ret2
          exact U14.no hno.out HB.out
      · have hm0 : ¬ (m : Int) = 0 := by omega
        have hlen := HO.out.2.2.len
        obtain ⟨s, hs⟩ : ∃ s, s = numb (((bs.drop a).drop 0).take 2) := ⟨_, rfl⟩
        have hs2 := numb_two (bs.drop a) (by omega)
        rw [← hs, bV_drop, bV_drop, Nat.add_zero] at hs2
        have ls : s < 65536 := by have := bV_lt bs a; have := bV_lt bs (a + 1); omega
        have HNUM : Hid (Calls Try.prog 14 #[.slice A2 m c2, .int .i64 0, .int .i64 2] wr fun e w' => e = .returned (.tuple #[.int .u64 (s : Int), .bool true]) ∧ wr = w') := Lib.hid (by have := num_yes A2 m c2 (bs.drop a) 0 2 wr HRD.out (by omega) (by omega) (by omega); rw [← hs] at this; exact this)
        have HS : Hid (∀ k, avGo bs (k + 1) acc a = if m < 2 then ([], 2)
          else if s = 0 then ([], 3)
          else if m < 2 + s then ([], 2)
          else if bV bs (a + 2) % 32 = 0 then ([], 3)
          else if m = 2 + s then (acc ++ [bV bs (a + 2) % 32], 0)
          else avGo bs k (acc ++ [bV bs (a + 2) % 32]) (a + 2 + s)) := Lib.hid (by
            intro k
            rw [avGo_next, HL.out, ← hs2]
            have e1 : (n + 1 < a + 2) ↔ m < 2 := by omega
            have e2 : (n + 1 < a + 2 + s) ↔ m < 2 + s := by omega
            have e3 : (a + 2 + s = n + 1) ↔ m = 2 + s := by omega
            simp only [e1, e2, e3])
        clear hs hs2 hlen
        by_cases h3 : (m : Int) < 2 + (s : Int)
        · have hno : Hid (unitsA bs = ([], 2)) := Lib.hid (by
            obtain ⟨k, h5, h6⟩ := hun.out
            rw [h6, HS.out, if_neg h2, if_neg (by omega), if_pos (by omega)])
          have hgt : (2 : Int) + (s : Int) > (m : Int) := h3
          go_wp2_with (go_at_call 14; ((with_reducible refine HNUM.out.mono ?_); rintro e w1 ⟨rfl, rfl⟩))
          go_ret2
          exact U14.no hno.out HB.out
        · by_cases h4 : (s : Int) = 0
          · have hno : Hid (unitsA bs = ([], 3)) := Lib.hid (by
              obtain ⟨k, h5, h6⟩ := hun.out
              rw [h6, HS.out, if_neg h2, if_pos (by omega)])
            go_wp2_with (go_at_call 14; ((with_reducible refine HNUM.out.mono ?_); rintro e w1 ⟨rfl, rfl⟩))
            go_ret2
            exact U14.no hno.out HB.out
          · obtain ⟨b, off, rfl, hlt, hcs⟩ := HRD.out.2.2.2.2 (by omega)
            have d2 : wr.cell? ⟨b, off + 2, none⟩ = some (.int .u8 (bV (bs.drop a) 2 : Int)) := hcs 2 (by omega)
            rw [bV_drop] at d2
            obtain ⟨y2, e2⟩ : ∃ x, x = bV bs (a + 2) := ⟨_, rfl⟩
            have l2 : y2 < 256 := by rw [e2]; exact bV_lt _ _
            rw [← e2] at d2 HS
            clear e2 hcs hlt
            have HT : Hid (∀ W : World, Calls Try.prog 7 #[.int .u8 (y2 : Int)] W fun e w' => e = .returned (.int .i64 ((y2 % 32 : Nat) : Int)) ∧ W = w') := Lib.hid (fun W => type14_any y2 W l2)
            obtain ⟨z, hz⟩ : ∃ z, z = y2 % 32 := ⟨_, rfl⟩
            rw [← hz] at HS HT
            have lz : z < 32 := by omega
            clear hz l2
            by_cases h5 : (z : Int) = 0
            · have hno : Hid (unitsA bs = ([], 3)) := Lib.hid (by
                obtain ⟨k, h5, h6⟩ := hun.out
                rw [h6, HS.out, if_neg h2, if_neg (by omega), if_neg (by omega), if_pos (by omega)])
              go_wp2_with (first
                | (go_at_call 14; ((with_reducible refine HNUM.out.mono ?_); rintro e w1 ⟨rfl, rfl⟩))
                | (go_at_call 7; ((with_reducible refine (HT.out _).mono ?_); rintro e w1 ⟨rfl, rfl⟩)))
              go_ret2
              exact U14.no hno.out HB.out
            · obtain ⟨A3, hs1, hs3, hrd3⟩ := run_lo (some ⟨b, off, none⟩) m c2 (2 + s) (2 + (s : Int)) (by omega) (by omega) HRD.out.le HRD.out.max
              have HRD3 : Hid (RdS w A3 (m - (2 + s)) (c2 - (2 + s)) (bs.drop (a + (2 + s)))) := Lib.hid (by have := hrd3 w _ HO.out.2.2; rw [List.drop_drop] at this; exact this)
              clear hrd3
              have hsv : Hid (Sv bs (n + 1) (m - (2 + s)) (M + 1) (a + (2 + s)) (acc ++ [z])) := Lib.hid (by
                obtain ⟨k, h6, h7⟩ := hun.out
                rw [HS.out, if_neg h2, if_neg (by omega), if_neg (by omega), if_neg (by omega)] at h7
                by_cases h8 : m = 2 + s
                · rw [if_pos h8] at h7
                  exact .inl ⟨by omega, by omega, h7⟩
                · rw [if_neg h8] at h7
                  exact .inr ⟨.inl (by omega), k, by omega, by rw [h7, Nat.add_assoc]⟩)
              go_wp2_with (first
                | (go_at_call 14; ((with_reducible refine HNUM.out.mono ?_); rintro e w1 ⟨rfl, rfl⟩))
                | (go_at_call 7; ((with_reducible refine (HT.out _).mono ?_); rintro e w1 ⟨rfl, rfl⟩))
                | (at_builtin; refine wpList_app1 _ rfl (.tmp 18) (.tmp 23) rfl Try.underlying26 i64_infA rfl (by omega) w.heap.size (.slice A1 M c1) M (icells (nI acc)) rfl (HO.out.1.alloc _) ⟨wr.heap.size, 0, none⟩ 1 rfl (.int .i64 (z : Int)) (cell_one_new _ _ _ 0 _ rfl) rfl (by omega) (by simp; omega) ?_; intro v3 w3 hown3 hg3 hat3 _; obtain ⟨A4, c4, hv3⟩ := own_form hown3; subst hv3; have b3 : Hid (Below w.heap.size w w3) := Lib.hid ((HB.out.alloc HB.out.size _).grown hg3 (by simp; omega) (fun q hq => (HO.out.1.lt q hq).1)); have o3 := Lib.hid hown3; clear hown3 hg3 hat3))
              go_roundw
              case rel =>
                refine ⟨M + 1, a + (2 + s), m - (2 + s), acc ++ [z], A4, c4, A3, c2 - (2 + s), by omega, by omega, rfl, rfl, Lib.hid ⟨hsv.out, by rw [List.length_append, ← HG.out.2.1]; rfl, fun x hx => ?_⟩, Lib.hid ⟨by rw [← nI_snoc]; exact o3.out, b3.out, HRD3.out⟩⟩
                rcases List.mem_append.1 hx with h | h
                · exact HG.out.2.2 x h
                · rw [List.mem_singleton.1 h]; exact lz
              case measure => simp; omega
end Go.Proofs.Ytbifgglhhhcacaa
