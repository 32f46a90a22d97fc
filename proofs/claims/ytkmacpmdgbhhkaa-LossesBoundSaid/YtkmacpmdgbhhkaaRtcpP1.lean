/- Contracts of package rtcp: the numbers that losses tell. No statement is proved here. -/
import Derived.Test.YtkmacpmdgbhhkaaRtcpArg
import Derived.Test.YtkmacpmdgbhhkaaElts
namespace Go.Proofs.Ytkmacpmdgbhhkaa
open Go.RowKit
set_option linter.unusedVariables false

theorem rowLoss {cs : List Value} (h : cs.length = 2) : RowTy Try.prog 35 cs.length := by
  rw [h]; exact ⟨_, Try.underlying35, rfl, by kernel_rfl⟩
theorem shr16 (B j : Nat) (hB : B < 65536) (hj : j ≤ 16) : Op.shift .shr .u16 (B : Int) .u16 (j : Int) = pure (.int .u16 ((B / 2 ^ j : Nat) : Int)) := by
  have h0 : ¬ ((j : Int) < 0) := by omega
  unfold Op.shift
  rw [if_neg h0]
  simp only [Int.toNat_natCast, IntKind.bits]
  rw [Nat.min_eq_left (by omega)]
  obtain ⟨y, hy⟩ : ∃ y, y = 2 ^ j := ⟨_, rfl⟩
  have e : (2 : Int) ^ j = (y : Int) := by rw [hy]; simp
  have h2 : B / y < 65536 := Nat.lt_of_le_of_lt (Nat.div_le_self _ _) hB
  simp only [e, ← hy]
  congr 2
  rw [Int.fdiv_eq_ediv_of_nonneg _ (by omega)]
  simp

theorem and_one (B j : Nat) (hB : B < 65536) : bits BinOp.and IntKind.u16 ((B : Int) / 2 ^ j) 1 = ((B / 2 ^ j % 2 : Nat) : Int) := by
  have e : (B : Int) / 2 ^ j = ((B / 2 ^ j : Nat) : Int) := by
    rw [Int.natCast_ediv]; simp
  rw [e]
  have h2 : B / 2 ^ j < 65536 := Nat.lt_of_le_of_lt (Nat.div_le_self _ _) hB
  obtain ⟨X, hX⟩ : ∃ X, X = B / 2 ^ j := ⟨_, rfl⟩
  rw [← hX] at h2 ⊢
  have h3 : X &&& 1 = X % 2 := Nat.and_one_is_mod X
  rw [show (1 : Int) = ((1 : Nat) : Int) from rfl, u16_and_nat X 1 h2 (by decide), h3]
def lc2 (S B : Nat) : List Value := [.int .u16 (S : Int), .int .u16 (B : Int)]
abbrev lz2 : List Value := [.int .u16 0, .int .u16 0]
theorem fit2 {S B : Nat} : 0 + (lc2 S B).length ≤ lz2.length := Nat.le_refl 2
theorem lc2_one (S B : Nat) : ∀ v ∈ lc2 S B, v.oneCell' = true := by intro v hv; simp [lc2] at hv; rcases hv with rfl | rfl <;> rfl

set_option maxRecDepth 100000 in
set_option maxHeartbeats 400000 in
theorem nacked_any (A : Option Addr) (n c : Nat) (L : List (Nat × Nat)) (w : World) (h : RdL w A n L) (hn : n ≤ 1000) :
    Calls Try.prog 16 #[.slice A n c] w fun e w' => ∃ A' c', e = .returned (.slice A' (nkL L).length c') ∧ w'.ownsRow w.heap.size 33 1 (.slice A' (nkL L).length c') (nkL L).length (hcells (nkL L)) ∧ Below w.heap.size w w' := by
  have HR := Lib.hid h
  have hz := zeroLoss
  clear h
  go_enter Try.func16, Try.ntmps16
  go_wp2
  go_loopw [3, 9] (fun v i wr => ∃ (k M : Nat) (A' : Option Addr) (c' : Nat), k ≤ n ∧ M ≤ 17 * k ∧ i = .int .i64 k ∧ v = .slice A' M c' ∧ Hid (wr.ownsRow w.heap.size 33 1 (.slice A' M c') M (hcells (nkL (L.take k))) ∧ Below w.heap.size w wr)) (fun _ i _ => n - (intOf i).toNat)
  case atStart => exact ⟨0, 0, none, 0, by omega, by omega, rfl, rfl, Lib.hid ⟨World.ownsRow_nil w _ _ _, Below.refl _ _⟩⟩
  case round =>
    obtain ⟨k, M, A1, c1, hk, hM, rfl, rfl, HL⟩ := hrel
    by_cases hkn : k < n
    · obtain ⟨b, off, rfl, hlt, hc⟩ := HR.out.2.2.2 (by omega)
      obtain ⟨q1, q2⟩ := hc k hkn
      have hmem : L.getD k (0, 0) ∈ L := by
        have : k < L.length := by rw [HR.out.1]; exact hkn
        simp [List.getD, this]
      obtain ⟨hs1, hs2⟩ := HR.out.2.2.1 _ hmem
      have hsn : L.take (k + 1) = L.take k ++ [L.getD k (0, 0)] := by
        have : k < L.length := by rw [HR.out.1]; exact hkn
        rw [List.take_add_one, List.getD, List.getElem?_eq_getElem this]; rfl
      obtain ⟨x, hx⟩ : ∃ x, x = L.getD k (0, 0) := ⟨_, rfl⟩
      rw [← hx] at q1 q2 hs1 hs2 hsn
      clear hx hmem hc
      obtain ⟨S, B⟩ := x
      simp only at q1 q2 hs1 hs2
      have HG : Hid (wr.rangeAt b (off + k * 2) (lc2 S B)) := Lib.hid (by
        intro j v hv
        unfold lc2 at hv
        match j, hv with
        | 0, hv => simp at hv; subst hv; exact (HL.out.2.cell (p := ⟨b, off + k * 2, none⟩) hlt).trans q1
        | 1, hv => simp at hv; subst hv; exact (HL.out.2.cell (p := ⟨b, off + k * 2 + 1, none⟩) hlt).trans q2
        | j + 2, hv => simp at hv)
      have HSN := Lib.hid hsn
      obtain ⟨T, hT⟩ : ∃ T, T = nkL (L.take k) := ⟨_, rfl⟩
      rw [← hT] at HL
      have HT := Lib.hid hT
      clear q1 q2 hsn hT
      have hsz := HL.out.2.size
      go_wp2_with (first
        | (with_reducible refine wpList_ld rfl 35 (.tmp 11) rfl b (off + k * 2) rfl (lc2 S B) HG.out (rowLoss rfl) ?_)
        | ((refine wpList_st rfl 35 (.tmp 5) (.tmp 12) rfl wr.heap.size 0 (lc2 S B) rfl (by with_unfolding_all rfl) 35 lz2 (BlkV.new wr _ _) fit2 (rowLoss rfl) (lc2_one S B) ?_); intro w1 hB1 ho1; rw [splice_all _ _ (by rfl)] at hB1; have c10 : w1.cell? ⟨wr.heap.size, 0, none⟩ = some (.int .u16 (S : Int)) := (hB1.cell 0).trans rfl; have o1 := Lib.hid ((HL.out.1.alloc (.cells #[.int .u16 0, .int .u16 0] 35)).kept ho1.grown (.inr (fun e => by have := (HL.out.1.lt _ e).2; omega))); have b1 : Hid (Below w.heap.size w w1) := Lib.hid ((HL.out.2.alloc HL.out.2.size _).trans (ho1.below HL.out.2.size)); have hsz1 : w.heap.size ≤ w1.heap.size := b1.out.size; clear ho1)
        | (at_builtin; refine wpList_app1 _ rfl (.tmp 13) (.tmp 16) rfl Try.underlying43 u16_inf rfl (by omega) w.heap.size (.slice A1 M c1) M (hcells T) rfl (o1.out.alloc _) ⟨w1.heap.size, 0, none⟩ 1 rfl (.int .u16 (S : Int)) (cell_one_new _ _ _ 0 _ rfl) rfl (by omega) (by simp; omega) ?_; intro v2 w2 hown2 hg2 hat2 _; obtain ⟨A2, c2, hv2⟩ := own_form hown2; subst hv2; have b2 : Hid (Below w.heap.size w w2) := Lib.hid ((b1.out.alloc b1.out.size _).grown hg2 (by simp; omega) (fun q hq => (o1.out.lt q hq).1)); have o2 := Lib.hid hown2; have k2 := Lib.hid ((hB1.alloc _).grown hg2 (fun e => own_ne o1.out hB1 (by decide) e.symm)); clear hown2 hg2 hat2))
      rw [show hcells T ++ [Value.int IntKind.u16 (S : Int)] = hcells (T ++ S :: nkT S B 0) by rw [← hcells_snoc]; rfl] at o2
      obtain ⟨p, hp⟩ : ∃ p, p = wr.heap.size := ⟨_, rfl⟩
      rw [← hp] at k2
      simp only [← hp]
      clear hB1 c10 o1 b1 hp
      go_loopw [3, 18] (fun v vk wx => ∃ (j M2 : Nat) (A2 : Option Addr) (c2 : Nat), j ≤ 16 ∧ M2 ≤ M + 1 + j ∧ vk = .int .u16 (j : Int) ∧ v = .slice A2 M2 c2 ∧ Hid (wx.ownsRow w.heap.size 33 1 (.slice A2 M2 c2) M2 (hcells (T ++ S :: nkT S B j)) ∧ Below w.heap.size w wx ∧ BlkV wx p 35 (lc2 S B))) (fun _ vk _ => 16 - (intOf vk).toNat)
      case atStart => exact ⟨0, M + 1, A2, c2, by omega, by omega, rfl, rfl, Lib.hid ⟨o2.out, b2.out, k2.out⟩⟩
      case round =>
        obtain ⟨j, M2, A2, c2, hj, hM2, rfl, rfl, HL2⟩ := hrel
        clear o2 b2 k2 HL
        have c0 : wr.cell? ⟨p, 0, none⟩ = some (.int .u16 (S : Int)) := (HL2.out.2.2.cell 0).trans rfl
        have c1' : wr.cell? ⟨p, 1, none⟩ = some (.int .u16 (B : Int)) := (HL2.out.2.2.cell 1).trans rfl
        have hsz2 := HL2.out.2.1.size
        have hsh := shr16 B j hs2 hj
        obtain ⟨X, hX⟩ : ∃ X, X = B / 2 ^ j := ⟨_, rfl⟩
        have hand := and_one B j hs2
        rw [← hX] at hsh hand
        have hX2 : X < 65536 := by rw [hX]; exact Nat.lt_of_le_of_lt (Nat.div_le_self _ _) hs2
        have HB := Lib.hid (bit_of B j X hX)
        have HNT := Lib.hid (nkT_succ S B j)
        clear hX
        by_cases hj16 : j < 16
        · by_cases hb : X % 2 = 1
          · have e1 : IntKind.u16.wrap ((j : Int) + 1) = (j : Int) + 1 := by rw [IntKind.wrap_u16]; omega
            obtain ⟨Y, hY⟩ : ∃ Y, Y = (S + j + 1) % 65536 := ⟨_, rfl⟩
            obtain ⟨S1, hS1⟩ : ∃ S1, S1 = (S + 1) % 65536 := ⟨_, rfl⟩
            have e2 : IntKind.u16.wrap ((S : Int) + 1) = (S1 : Int) := by rw [IntKind.wrap_u16, hS1]; omega
            have e3 : IntKind.u16.wrap ((S1 : Int) + (j : Int)) = (Y : Int) := by rw [IntKind.wrap_u16, hY, hS1]; omega
            have hq : (bits BinOp.and IntKind.u16 ((B : Int) / 2 ^ j) 1 == 1) = true := by rw [hand]; simp; omega
            have HN2 : Hid (T ++ S :: nkT S B (j + 1) = (T ++ S :: nkT S B j) ++ [Y]) := Lib.hid (by
              rw [HNT.out, HB.out, hY]; simp [hb])
            clear hY hS1 hand
            go_wp2_with (at_builtin; refine wpList_app1 _ rfl (.tmp 27) (.tmp 33) rfl Try.underlying43 u16_inf rfl (by omega) w.heap.size (.slice A2 M2 c2) M2 (hcells (T ++ S :: nkT S B j)) rfl (HL2.out.1.alloc _) ⟨wr.heap.size, 0, none⟩ 1 rfl (.int .u16 (Y : Int)) (cell_one_new _ _ _ 0 _ rfl) rfl (by omega) (by simp; omega) ?_; intro v3 w3 hown3 hg3 hat3 _; obtain ⟨A3, c3, hv3⟩ := own_form hown3; subst hv3; have h3 := Lib.hid (show w3.ownsRow w.heap.size 33 1 (.slice A3 (M2 + 1) c3) (M2 + 1) (hcells (T ++ S :: nkT S B (j + 1))) ∧ Below w.heap.size w w3 ∧ BlkV w3 p 35 (lc2 S B) from ⟨by rw [HN2.out, hcells_snoc]; exact hown3, (HL2.out.2.1.alloc HL2.out.2.1.size _).grown hg3 (by simp; omega) (fun q hq => (HL2.out.1.lt q hq).1), (HL2.out.2.2.alloc _).grown hg3 (fun e => own_ne HL2.out.1 HL2.out.2.2 (by decide) e.symm)⟩); clear hown3 hg3 hat3)
            go_roundw
            case rel => exact ⟨j + 1, M2 + 1, A3, c3, by omega, by omega, by go_num, rfl, h3⟩
            case measure => simp [intOf]; omega
          · have HN2 : Hid (T ++ S :: nkT S B (j + 1) = T ++ S :: nkT S B j) := Lib.hid (by rw [HNT.out, HB.out]; simp [hb])
            have e1 : IntKind.u16.wrap ((j : Int) + 1) = (j : Int) + 1 := by rw [IntKind.wrap_u16]; omega
            have hq : (bits BinOp.and IntKind.u16 ((B : Int) / 2 ^ j) 1 == 1) = false := by rw [hand]; simp; omega
            clear hand
            have h3 := Lib.hid (show wr.ownsRow w.heap.size 33 1 (.slice A2 M2 c2) M2 (hcells (T ++ S :: nkT S B (j + 1))) ∧ Below w.heap.size w wr ∧ BlkV wr p 35 (lc2 S B) from ⟨by rw [HN2.out]; exact HL2.out.1, HL2.out.2⟩)
            go_wp2
            go_roundw
            case rel => exact ⟨j + 1, M2, A2, c2, by omega, by omega, by go_num, rfl, h3⟩
            case measure => simp [intOf]; omega
        · have hje : j = 16 := by omega
          have hn2 : nkL (L.take (k + 1)) = T ++ S :: nkT S B 16 := by
            rw [HSN.out, nkL_snoc, ← HT.out]; rfl
          have h3 := Lib.hid (show wr.ownsRow w.heap.size 33 1 (.slice A2 M2 c2) M2 (hcells (nkL (L.take (k + 1)))) ∧ Below w.heap.size w wr from ⟨by rw [hn2, ← hje]; exact HL2.out.1, HL2.out.2.1⟩)
          clear hn2
          go_wp2
          go_roundw
          case rel => exact ⟨k + 1, M2, A2, c2, by omega, by omega, by go_num, rfl, h3⟩
          case measure => simp [intOf]; omega
    · obtain rfl : k = n := by omega
      rw [show L.take k = L by rw [← HR.out.1, List.take_length]] at HL
      have hm : M = (nkL L).length := by have := HL.out.1.1; rw [hcells_len] at this; omega
      subst hm
      go_wp2
      go_ret
      exact ⟨A1, c1, rfl, HL.out.1, HL.out.2⟩
end Go.Proofs.Ytkmacpmdgbhhkaa
