/- What the document's answer for layer 11 (tenailleref11) tells of losses. No statement is proved here. -/
import Derived.Test.YtacaempcbdekaaaDoorRtcpNum
import Derived.Test.YtacaempcbdekaaaDoorOctRef
import Derived.Test.YtacaempcbdekaaaDoorMem2
namespace Go.Proofs.YtacaempcbdekaaaDoor
open Go.RowKit
set_option linter.unusedVariables false

def hcells (L : List Nat) : List Value := L.map fun x : Nat => .int .u16 (x : Int)
theorem hcells_len (L : List Nat) : (hcells L).length = L.length := by simp [hcells]
theorem hcells_snoc (L : List Nat) (x : Nat) : hcells (L ++ [x]) = hcells L ++ [.int .u16 (x : Int)] := by simp [hcells]
theorem hcells_at {L : List Nat} {j : Nat} (h : j < L.length) : (hcells L)[j]? = some (.int .u16 ((L.getD j 0 : Nat) : Int)) := by simp [hcells, List.getD, h]
theorem u16_inf : (Tryd.prog.info? 39).map (fun i => (i.zero, i.size, i.bytes)) = some (some (.int .u16 0), 1, 2) := by kernel_rfl

/-- A slice of losses reads as these. -/
def RdL (w : World) (A : Option Addr) (n : Nat) (L : List (Nat × Nat)) : Prop :=
  L.length = n ∧ n ≤ 9223372036854775807 ∧ (∀ a ∈ L, a.1 < 65536 ∧ a.2 < 65536) ∧ (0 < n → ∃ b off, A = some ⟨b, off, none⟩ ∧ b < w.heap.size ∧ ∀ j, j < n → w.cell? ⟨b, off + j * 2, none⟩ = some (.int .u16 (((L.getD j (0, 0)).1 : Nat) : Int)) ∧ w.cell? ⟨b, off + j * 2 + 1, none⟩ = some (.int .u16 (((L.getD j (0, 0)).2 : Nat) : Int)))
theorem RdL.below {w w' : World} {A : Option Addr} {n : Nat} {L : List (Nat × Nat)} (h : RdL w A n L) (hb : Below w.heap.size w w') : RdL w' A n L := by
  refine ⟨h.1, h.2.1, h.2.2.1, fun hn => ?_⟩
  obtain ⟨b, off, hA, hlt, hc⟩ := h.2.2.2 hn
  exact ⟨b, off, hA, Nat.lt_of_lt_of_le hlt hb.size, fun j hj => ⟨(hb.cell (p := ⟨b, off + j * 2, none⟩) hlt).trans (hc j hj).1, (hb.cell (p := ⟨b, off + j * 2 + 1, none⟩) hlt).trans (hc j hj).2⟩⟩

theorem bit_of (b j x : Nat) (h : x = b / 2 ^ j) : b.testBit j = decide (x % 2 = 1) := by rw [h, Nat.testBit_eq_decide_div_mod_eq]
theorem half_of (b j x : Nat) (h : x = b / 2 ^ j) : x / 2 = b / 2 ^ (j + 1) := by rw [h, Nat.div_div_eq_div_mul, Nat.pow_succ]

set_option maxRecDepth 100000 in
set_option maxHeartbeats 2000000 in
theorem rnacked_any (A : Option Addr) (n c : Nat) (L : List (Nat × Nat)) (w : World) (h : RdL w A n L) (hn : n ≤ 1000) :
    Calls Tryd.prog 15 #[.slice A n c] w fun e w' => ∃ A' c', e = .returned (.slice A' (nkL L).length c') ∧ w'.ownsRow w.heap.size 39 1 (.slice A' (nkL L).length c') (nkL L).length (hcells (nkL L)) ∧ Below w.heap.size w w' := by
  have HR := Lib.hid h
  clear h
  go_enter Tryd.func15, Tryd.ntmps15
  go_wp2
  go_loopw [3, 4] (fun v i wr => ∃ (k M : Nat) (A' : Option Addr) (c' : Nat), k ≤ n ∧ M ≤ 17 * k ∧ i = .int .i64 k ∧ v = .slice A' M c' ∧ Hid (wr.ownsRow w.heap.size 39 1 (.slice A' M c') M (hcells (nkL (L.take k))) ∧ Below w.heap.size w wr)) (fun _ i _ => n - (intOf i).toNat)
  case atStart => exact ⟨0, 0, none, 0, by omega, by omega, rfl, rfl, Lib.hid ⟨World.ownsRow_nil w _ _ _, Below.refl _ _⟩⟩
  case round =>
    obtain ⟨k, M, A1, c1, hk, hM, rfl, rfl, HL⟩ := hrel
    by_cases hkn : k < n
    · obtain ⟨b, off, rfl, hlt, hc⟩ := HR.out.2.2.2 (by omega)
      obtain ⟨q1, q2⟩ := hc k hkn
      have hmem : L.getD k (0, 0) ∈ L := by
        have : k < L.length := by rw [HR.out.1]; exact hkn
        simp [List.getD, this]
      obtain ⟨hs1, hs2⟩ := HR.out.2.2.1 _ hmem
      have hsn : L.take (k + 1) = L.take k ++ [L.getD k (0, 0)] := by
        have : k < L.length := by rw [HR.out.1]; exact hkn
        rw [List.take_add_one, List.getD, List.getElem?_eq_getElem this]; rfl
      obtain ⟨x, hx⟩ : ∃ x, x = L.getD k (0, 0) := ⟨_, rfl⟩
      rw [← hx] at q1 q2 hs1 hs2 hsn
      clear hx hmem hc
      obtain ⟨S, B⟩ := x
      simp only at q1 q2 hs1 hs2
      have Q1 : Hid (∀ W, Below w.heap.size w W → W.cell? ⟨b, off + k * 2, none⟩ = some (.int .u16 (S : Int))) := Lib.hid fun W hb => (hb.cell (p := ⟨b, off + k * 2, none⟩) hlt).trans q1
      have Q2 : Hid (∀ W, Below w.heap.size w W → W.cell? ⟨b, off + k * 2 + 1, none⟩ = some (.int .u16 (B : Int))) := Lib.hid fun W hb => (hb.cell (p := ⟨b, off + k * 2 + 1, none⟩) hlt).trans q2
      have HSN := Lib.hid hsn
      obtain ⟨T, hT⟩ : ∃ T, T = nkL (L.take k) := ⟨_, rfl⟩
      rw [← hT] at HL
      have HT := Lib.hid hT
      clear q1 q2 hsn hT
      have r1 := Q1.out _ HL.out.2
      have r2 := Q2.out _ HL.out.2
      have hsz := HL.out.2.size
      go_wp2_with (at_builtin; refine wpList_app1 _ rfl (.tmp 13) (.tmp 19) rfl Tryd.underlying36 u16_inf rfl (by omega) w.heap.size (.slice A1 M c1) M (hcells T) rfl (HL.out.1.alloc _) ⟨wr.heap.size, 0, none⟩ 1 rfl (.int .u16 (S : Int)) (cell_one_new _ _ _ 0 _ rfl) rfl (by omega) (by simp; omega) ?_; intro v2 w2 hown2 hg2 hat2 _; obtain ⟨A2, c2, hv2⟩ := own_form hown2; subst hv2; have b2 : Hid (Below w.heap.size w w2) := Lib.hid ((HL.out.2.alloc HL.out.2.size _).grown hg2 (by simp; omega) (fun q hq => (HL.out.1.lt q hq).1)); have o2 := Lib.hid hown2; have r2 := Q2.out _ b2.out; clear hown2 hg2 hat2)
      rw [show hcells T ++ [Value.int IntKind.u16 (S : Int)] = hcells (T ++ S :: nkT S B 0) by rw [← hcells_snoc]; rfl] at o2
      go_loopw [3, 5, 6] (fun v vb vk wx => ∃ (j M2 X : Nat) (A2 : Option Addr) (c2 : Nat), j ≤ 16 ∧ X < 65536 ∧ M2 ≤ M + 1 + j ∧ vk = .int .i64 ((j : Int) + 1) ∧ vb = .int .u16 (X : Int) ∧ v = .slice A2 M2 c2 ∧ Hid (X = B / 2 ^ j) ∧ Hid (wx.ownsRow w.heap.size 39 1 (.slice A2 M2 c2) M2 (hcells (T ++ S :: nkT S B j)) ∧ Below w.heap.size w wx)) (fun _ _ vk _ => 17 - (intOf vk).toNat)
      case atStart => exact ⟨0, M + 1, B, A2, c2, by omega, hs2, by omega, by simp, rfl, rfl, Lib.hid (by simp), Lib.hid ⟨o2.out, b2.out⟩⟩
      case round =>
        obtain ⟨j, M2, X, A2, c2, hj, hX, hM2, rfl, rfl, rfl, HX, HL2⟩ := hrel
        clear o2 b2 HL
        have hbit := bit_of B j X HX.out
        have HB := Lib.hid hbit
        have HX2 := Lib.hid (half_of B j X HX.out)
        have q1 := Q1.out _ HL2.out.2
        have hsz2 := HL2.out.2.size
        have ht : nkT S B (j + 1) = nkT S B j ++ (if B.testBit j = true then [(S + j + 1) % 65536] else []) := nkT_succ S B j
        have HNT := Lib.hid ht
        clear hbit ht
        by_cases hj16 : j < 16
        · by_cases hb : X % 2 = 1
          · have hq : ((X : Int) % 2 == 1) = true := by simp; omega
            have e1 : IntKind.u16.wrap ((j : Int) + 1) = (j : Int) + 1 := by rw [IntKind.wrap_u16]; omega
            obtain ⟨Y, hY⟩ : ∃ Y, Y = (S + j + 1) % 65536 := ⟨_, rfl⟩
            have e2 : IntKind.u16.wrap ((S : Int) + ((j : Int) + 1)) = (Y : Int) := by rw [IntKind.wrap_u16, hY]; omega
            have hn2 : T ++ S :: nkT S B (j + 1) = (T ++ S :: nkT S B j) ++ [Y] := by
              rw [HNT.out, HB.out, hY]; simp [hb]
            have HN2 := Lib.hid hn2
            clear hn2 hY
            go_wp2_with (at_builtin; refine wpList_app1 _ rfl (.tmp 33) (.tmp 42) rfl Tryd.underlying36 u16_inf rfl (by omega) w.heap.size (.slice A2 M2 c2) M2 (hcells (T ++ S :: nkT S B j)) rfl (HL2.out.1.alloc _) ⟨wr.heap.size, 0, none⟩ 1 rfl (.int .u16 (Y : Int)) (cell_one_new _ _ _ 0 _ rfl) rfl (by omega) (by simp; omega) ?_; intro v3 w3 hown3 hg3 hat3 _; obtain ⟨A3, c3, hv3⟩ := own_form hown3; subst hv3; have h3 := Lib.hid (show w3.ownsRow w.heap.size 39 1 (.slice A3 (M2 + 1) c3) (M2 + 1) (hcells (T ++ S :: nkT S B (j + 1))) ∧ Below w.heap.size w w3 from ⟨by rw [HN2.out, hcells_snoc]; exact hown3, (HL2.out.2.alloc HL2.out.2.size _).grown hg3 (by simp; omega) (fun q hq => (HL2.out.1.lt q hq).1)⟩); clear hown3 hg3 hat3)
            go_roundw
            case rel => exact ⟨j + 1, M2 + 1, X / 2, A3, c3, by omega, by omega, by omega, by go_num, by simp, rfl, HX2, h3⟩
            case measure => simp [intOf]; omega
          · have hq : ((X : Int) % 2 == 1) = false := by simp; omega
            have hn2 : T ++ S :: nkT S B (j + 1) = T ++ S :: nkT S B j := by
              rw [HNT.out, HB.out]; simp [hb]
            have h3 := Lib.hid (show wr.ownsRow w.heap.size 39 1 (.slice A2 M2 c2) M2 (hcells (T ++ S :: nkT S B (j + 1))) ∧ Below w.heap.size w wr from ⟨by rw [hn2]; exact HL2.out.1, HL2.out.2⟩)
            clear hn2
            go_wp2
            go_roundw
            case rel => exact ⟨j + 1, M2, X / 2, A2, c2, by omega, by omega, by omega, by go_num, by simp, rfl, HX2, h3⟩
            case measure => simp [intOf]; omega
        · have hje : j = 16 := by omega
          have hn2 : nkL (L.take (k + 1)) = T ++ S :: nkT S B 16 := by
            rw [HSN.out, nkL_snoc, ← HT.out]; rfl
          have h3 := Lib.hid (show wr.ownsRow w.heap.size 39 1 (.slice A2 M2 c2) M2 (hcells (nkL (L.take (k + 1)))) ∧ Below w.heap.size w wr from ⟨by rw [hn2, ← hje]; exact HL2.out.1, HL2.out.2⟩)
          clear hn2
          go_wp2
          go_roundw
          case rel => exact ⟨k + 1, M2, A2, c2, by omega, by omega, by go_num, rfl, h3⟩
          case measure => simp [intOf]; omega
    · obtain rfl : k = n := by omega
      rw [show L.take k = L by rw [← HR.out.1, List.take_length]] at HL
      have hm : M = (nkL L).length := by have := HL.out.1.1; rw [hcells_len] at this; omega
      subst hm
      go_wp2
      go_ret
      exact ⟨A1, c1, rfl, HL.out.1, HL.out.2⟩
end Go.Proofs.YtacaempcbdekaaaDoor
