/- What the three laws of layer 5 share: that the document's example comes out. No statement is proved here. -/
import Derived.Test.YtgplaekilgbfpaaAes9
import Derived.Deep.RegionWith
namespace Go.Proofs.Ytgplaekilgbfpaa
open Go.RowKit
set_option linter.unusedVariables false

theorem eq16 (xs ys : List UInt8) (hx : xs.length = 16) (hy : ys.length = 16) (w : World) :
    (Op.equalIn 10000 28 (.agg (cells xs).toArray) (.agg (cells ys).toArray)).run Try.prog w = .ok (xs == ys) w := by
  refine run_equalIn_bytes w 9998 28 5 16 Try.underlying28 Try.underlying5 (fun w => ?_) xs ys hx hy
  kernel_rfl
/-- Counted bytes. -/
def ctB (n : UInt8) (i : Nat) : UInt8 := UInt8.ofNat i * n
def ctL (n : UInt8) : List UInt8 := tab 16 (ctB n)
theorem ctL_len (n : UInt8) : (ctL n).length = 16 := tab_len _ _
theorem ct_one : ctL 1 = exK := by decide +kernel
theorem ct_17 : ctL 17 = exB := by decide +kernel
theorem ct_nat (n : UInt8) (i : Nat) (hi : i < 16) : ((i : Int) * (n.toNat : Int)) % 256 = ((ctB n i).toNat : Int) := by
  unfold ctB
  rw [UInt8.toNat_mul, UInt8.toNat_ofNat', show i % 2 ^ 8 = i by omega]
  simp

set_option maxRecDepth 100000 in
set_option maxHeartbeats 1000000 in
theorem counting_any (n : UInt8) (ni : Int) (w : World) (hn : ni = (n.toNat : Int)) :
    Calls Try.prog 16 #[.int .u8 ni] w fun e w' => e = .returned (.agg (cells (ctL n)).toArray) ∧ Below w.heap.size w w' := by
  subst hn
  have hz := zero16
  have hb0 : Below w.heap.size w ((w.alloc (Obj.cells (cells Z16).toArray 28)).alloc (Obj.cells (cells Z16).toArray 28)) := ((Below.refl _ _).alloc (Nat.le_refl _) _).alloc (by simp) _
  have h0 : Blk ((w.alloc (Obj.cells (cells Z16).toArray 28)).alloc (Obj.cells (cells Z16).toArray 28)) w.heap.size 28 Z16 := (Blk.new _ _ _).alloc _
  have h1 : Blk ((w.alloc (Obj.cells (cells Z16).toArray 28)).alloc (Obj.cells (cells Z16).toArray 28)) (w.heap.size + 1) 28 (fillAt (ctB n) Z16 0) := by rw [fillAt_zero]; exact Blk.new_at _ _ _ _ _ (by simp) rfl
  have hnl := n.toNat_lt
  go_enter Try.func16, Try.ntmps16
  go_wp2
  go_loopw [4] (fun vi wr => ∃ k : Nat, k ≤ 16 ∧ vi = .int .i64 k ∧ Blk wr (w.heap.size + 1) 28 (fillAt (ctB n) Z16 k) ∧ Blk wr w.heap.size 28 Z16 ∧ Below w.heap.size w wr) (fun i _ => 16 - (intOf i).toNat)
  case atStart => exact ⟨0, by omega, rfl, h1, h0, hb0⟩
  case round =>
    clear h1 h0 hb0
    obtain ⟨k, hk, rfl, h1, h0, hb⟩ := hrel
    by_cases hlt : k < 16
    · have hcell := h1.cell (j := k) (by rw [fillAt_len _ _ _ (by rw [Z16_len]; omega), Z16_len]; exact hlt)
      have hfr := h1.frozen k
      have hct := ct_nat n k hlt
      have hst := h1.set_ k (ctB n k)
      rw [fillAt_step _ _ _ (by rw [Z16_len]; exact hlt)] at hst
      have h0s := h0.far (p := ⟨w.heap.size + 1, k, none⟩) (by simp) (.int .u8 ((ctB n k).toNat : Int))
      have hbs := hb.setCell (p := ⟨w.heap.size + 1, k, none⟩) (by simp) (.int .u8 ((ctB n k).toNat : Int))
      obtain ⟨v, hv⟩ : ∃ v : Int, v = ((ctB n k).toNat : Int) := ⟨_, rfl⟩
      rw [← hv] at hct hst h0s hbs
      obtain ⟨y, hy⟩ : ∃ y : Int, y = (((fillAt (ctB n) Z16 k).getD k 0).toNat : Int) := ⟨_, rfl⟩
      rw [← hy] at hcell
      clear hv hy
      go_wp2
      go_roundw
      case rel => exact ⟨k + 1, by omega, by go_num, hst, h0s, hbs⟩
      case measure => simp [intOf]; omega
    · obtain rfl : k = 16 := by omega
      have hcl : fillAt (ctB n) Z16 16 = ctL n := fillAt_all _ _ _ Z16_len
      rw [hcl] at h1
      have hL : (cells (ctL n)).length = 16 := by rw [length_cells, ctL_len]
      have HL := Lib.hid hL
      have hZ : (cells Z16).length = 16 := by rw [length_cells, Z16_len]
      have HZ := Lib.hid hZ
      clear hcl hL hZ
      go_wp2_with (first
        | (with_reducible refine wpList_ld rfl 28 (.tmp 3) rfl (w.heap.size + 1) 0 rfl (cells (ctL n)) (h1.v.range 0 _ (by simp)) (row16 HL.out) ?_)
        | ((with_reducible refine wpList_st rfl 28 (.tmp 2) (.tmp 15) rfl w.heap.size 0 (cells (ctL n)) rfl rfl 28 _ h0.v (by rw [HL.out, HZ.out]; omega) (row16 HL.out) (cells_one _) ?_); intro w2 hB2 ho2; rw [splice_all _ _ (by rw [HL.out, HZ.out])] at hB2))
      exact ret_row (by rfl) (by rfl) hB2 (row16 HL.out) (by rfl) ⟨rfl, hb.trans (ho2.below (Nat.le_refl _))⟩

set_option maxRecDepth 100000 in
theorem alive_any (w : World) : Calls Try.prog 6 #[] w fun e w' => e = .returned (.bool true) ∧ Below w.heap.size w w' := by
  have hc1 := fun wx => counting_any 1 1 wx rfl
  have hc17 := fun wx => counting_any 17 17 wx rfl
  rw [ct_one] at hc1
  rw [ct_17] at hc17
  have hn := fun wx => new_any exK wx (by rfl)
  have hbk := fun p wx (h : BlkV wx p 50 (ciph (kall exK))) => block_some p _ (kall exK) exB wx (by rfl) (kall_len _ (by rfl)) h
  rw [ex_is] at hbk
  obtain ⟨K, hK⟩ : ∃ K, K = exK := ⟨_, rfl⟩
  obtain ⟨B, hB⟩ : ∃ B, B = exB := ⟨_, rfl⟩
  obtain ⟨D, hD⟩ : ∃ D, D = exOut := ⟨_, rfl⟩
  simp only [← hK, ← hB, ← hD] at hc1 hc17 hn hbk
  have q1 : ∀ w, (Op.equalIn 10000 28 (.agg (cells D).toArray) (.agg #[.int .u8 105, .int .u8 196, .int .u8 224, .int .u8 216, .int .u8 106, .int .u8 123, .int .u8 4, .int .u8 48, .int .u8 216, .int .u8 205, .int .u8 183, .int .u8 128, .int .u8 112, .int .u8 180, .int .u8 197, .int .u8 90])).run Try.prog w = .ok true w := by
    intro w
    have h := eq16 D exOut (by rw [hD]; rfl) rfl w
    rw [show (D == exOut) = true by rw [hD]; rfl] at h
    exact h
  have H1 := Lib.hid hc1
  have H17 := Lib.hid hc17
  have HN := Lib.hid hn
  have HB := Lib.hid hbk
  clear hc1 hc17 hn hbk hK hB hD
  go_enter Try.func6, Try.ntmps6
  go_wp2_with (first
    | (go_at_call 16; ((with_reducible refine (Hid.out H1 _).mono ?_); rintro e w1 ⟨rfl, hb1⟩))
    | (go_at_call 13; ((with_reducible refine (Hid.out HN w1).mono ?_); rintro e w2 ⟨p, rfl, hp, hc2, hb2⟩; have hb2w := hb1.trans (hb2.mono hb1.size)))
    | (go_at_call 16; ((with_reducible refine (Hid.out H17 w2).mono ?_); rintro e w3 ⟨rfl, hb3⟩; have hc3 := hc2.below hb3 hc2.lt; have hb3w := hb2w.trans (hb3.mono hb2w.size)))
    | (go_at_call 14; ((with_reducible refine (Hid.out HB p w3 hc3).mono ?_); rintro e w4 ⟨rfl, hb4⟩; have hb4w := hb3w.trans (hb4.mono hb3w.size))))
  go_ret
  exact ⟨rfl, hb4w⟩
end Go.Proofs.Ytgplaekilgbfpaa
