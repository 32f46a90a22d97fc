/- Contracts of package sha's functions on blocks. No statement is proved here. -/
import Derived.Test.YtihaiplkkamkoaaDoorSha1
import Derived.Test.YtihaiplkkamkoaaDoorOct
import Derived.Test.YtihaiplkkamkoaaDoorMem
import Derived.BigQuiet
import Derived.Deep.RegionHeld3
import Derived.Deep.DrawnRows
import Derived.IntWalk
import Derived.StillTailTactics
namespace Go.Proofs.YtihaiplkkamkoaaDoor
open Go.RowKit
set_option linter.unusedVariables false

theorem row20_ : RowTy Tryd.prog 31 20 := ⟨_, Tryd.underlying31, rfl, by kernel_rfl⟩
theorem row20 {n : Nat} (h : n = 20) : RowTy Tryd.prog 31 n := h ▸ row20_
theorem row5_ : RowTy Tryd.prog 51 5 := ⟨_, Tryd.underlying51, rfl, by kernel_rfl⟩
theorem row5 {n : Nat} (h : n = 5) : RowTy Tryd.prog 51 n := h ▸ row5_
theorem row64_ : RowTy Tryd.prog 35 64 := ⟨_, Tryd.underlying35, rfl, by kernel_rfl⟩
theorem row64 {n : Nat} (h : n = 64) : RowTy Tryd.prog 35 n := h ▸ row64_
theorem row80_ : RowTy Tryd.prog 57 80 := ⟨_, Tryd.underlying57, rfl, by kernel_rfl⟩
theorem row80 {n : Nat} (h : n = 80) : RowTy Tryd.prog 57 n := h ▸ row80_
theorem row70_ : RowTy Tryd.prog 53 70 := ⟨_, Tryd.underlying53, rfl, by kernel_rfl⟩
theorem row70 {n : Nat} (h : n = 70) : RowTy Tryd.prog 53 n := h ▸ row70_

/-- Words as cells. -/
def c32 (l : List Nat) : List Value := l.map fun (x : Nat) => Value.int .u32 (x : Int)
theorem c32_at {l : List Nat} {j : Nat} (h : j < l.length) : (c32 l)[j]? = some (.int .u32 ((l.getD j 0 : Nat) : Int)) := by
  simp [c32, List.getD, h]
theorem c32_len (l : List Nat) : (c32 l).length = l.length := by simp [c32]
/-- The five words as a value. -/
def S5.val (s : S5) : Value := .agg #[.int .u32 (s.a : Int), .int .u32 (s.b : Int), .int .u32 (s.c : Int), .int .u32 (s.d : Int), .int .u32 (s.e : Int)]

theorem told_step (s : S5) (k : Nat) (hk : k < 20) : (toldN s k ++ List.replicate (20 - k) 0).set k (toldB s k) = toldN s (k + 1) ++ List.replicate (20 - (k + 1)) 0 := by
  rw [List.set_append_right _ _ (by rw [toldN_len]; omega), toldN_len, Nat.sub_self, show 20 - k = (20 - (k + 1)) + 1 by omega, List.replicate_succ, List.set_cons_zero, toldN_succ, List.append_assoc]
  rfl
theorem u8_of (x : Nat) : ((UInt8.ofNat x).toNat : Int) = (x : Int) % 256 := by rw [UInt8.toNat_ofNat']; omega
theorem S5.cell_at {w : World} {g : Nat} {e : TypeId} {s : S5} (h : BlkV w g e (c32 s.l)) (j : Nat) (hj : j < 5) : w.cell? ⟨g, j, none⟩ = some (.int .u32 ((s.l.getD j 0 : Nat) : Int)) := by
  rw [h.cell, c32_at (by simpa [S5.l] using hj)]

set_option maxHeartbeats 1000000 in
theorem told_any (s : S5) (w : World) (hs : s.ok) :
    Calls Tryd.prog 25 #[s.val] w fun e w' => e = .returned (.agg (cells (toldN s 20)).toArray) ∧ Below w.heap.size w w' := by
  unfold S5.val
  go_enter Tryd.func25, Tryd.ntmps25
  go_wp2
  go_loopw [5] (fun i wr => ∃ k : Nat, k ≤ 20 ∧ i = .int .i64 k ∧ BlkV wr w.heap.size 51 (c32 s.l) ∧ Blk wr (w.heap.size + 1) 31 (List.replicate 20 0) ∧ Blk wr (w.heap.size + 1 + 1) 31 (toldN s k ++ List.replicate (20 - k) 0) ∧ Below w.heap.size w wr) (fun i _ => 20 - (intOf i).toNat)
  case atStart =>
    refine ⟨0, by omega, rfl, ?_, ?_, ?_, ?_⟩
    · exact ((BlkV.new _ _ (c32 s.l)).alloc _).alloc _
    · exact (Blk.new_at _ _ _ (List.replicate 20 0) _ (by simp) rfl).alloc _
    · exact Blk.new_at _ _ _ (List.replicate 20 0) _ (by simp) rfl
    · exact (((Below.refl _ _).alloc (Nat.le_refl _) _).alloc (by simp) _).alloc (by simp; omega) _
  case round =>
    obtain ⟨k, hk, rfl, h1, h2, h3, hb⟩ := hrel
    by_cases hlt : k < 20
    · have hcell := S5.cell_at h1 (k / 4) (by omega)
      have hcell3 := h3.cell (j := k) (by rw [List.length_append, toldN_len, List.length_replicate]; omega)
      have hfr := h3.frozen k
      have hx := all_getD (S5.l_lt hs) (k / 4)
      obtain ⟨x, hxx⟩ : ∃ x, x = s.l.getD (k / 4) 0 := ⟨_, rfl⟩
      rw [← hxx] at hcell hx
      obtain ⟨y, hy⟩ : ∃ y : Value, y = (.int .u8 (((toldN s k ++ List.replicate (20 - k) 0).getD k 0).toNat : Int)) := ⟨_, rfl⟩
      rw [← hy] at hcell3
      clear hy
      have HX := Lib.hid hxx
      clear hxx
      have e1 : Value.int IntKind.u8 ((x : Int) / 2 ^ (24 - 8 * (k % 4)) % 256) = .int .u8 ((toldB s k).toNat : Int) := by
        unfold toldB
        rw [u8_of, ← HX.out]
        simp
      have hs3 := h3.set_ k (toldB s k)
      rw [told_step s k hlt, ← e1] at hs3
      have hs1 := h1.far (p := ⟨w.heap.size + 1 + 1, k, none⟩) (by simp; omega) (Value.int IntKind.u8 ((x : Int) / 2 ^ (24 - 8 * (k % 4)) % 256))
      have hs2 := h2.far (p := ⟨w.heap.size + 1 + 1, k, none⟩) (by simp) (Value.int IntKind.u8 ((x : Int) / 2 ^ (24 - 8 * (k % 4)) % 256))
      have hbs := hb.setCell (p := ⟨w.heap.size + 1 + 1, k, none⟩) (by simp; omega) (Value.int IntKind.u8 ((x : Int) / 2 ^ (24 - 8 * (k % 4)) % 256))
      clear e1
      go_wp2
      go_roundw
      case rel => exact ⟨k + 1, by omega, by go_num, hs1, hs2, hs3, hbs⟩
      case measure => simp [intOf]; omega
    · obtain rfl : k = 20 := by omega
      have h3' : Blk wr (w.heap.size + 1 + 1) 31 (toldN s 20) := by simpa using h3
      clear h3
      go_wp2_with (first
        | (with_reducible refine wpList_ld rfl 31 (.tmp 3) rfl (w.heap.size + 1 + 1) 0 rfl (cells (toldN s 20)) (h3'.v.range 0 _ (by simp)) (row20 (by rw [length_cells, toldN_len])) ?_)
        | (with_reducible refine wpList_st rfl 31 (.tmp 2) (.tmp 21) rfl (w.heap.size + 1) 0 (cells (toldN s 20)) rfl rfl 31 _ h2.v (by simp [length_cells, toldN_len]) (row20 (by rw [length_cells, toldN_len])) (cells_one _) ?_; intro w2 hB2 ho2))
      rw [splice_all _ _ (by simp [length_cells, toldN_len])] at hB2
      exact ret_row (by rfl) (by rfl) hB2 (row20 (by rw [length_cells, toldN_len])) (by rfl) ⟨rfl, hb.trans (ho2.below (by omega))⟩

theorem wds_at (b : List UInt8) (k j : Nat) (h : j < k) : (wds b k)[j]? = some ((wds b k).getD j 0) := by
  simp [List.getD, show j < (wds b k).length by rw [wds_len]; exact h]
/-- The words that a loop has laid, and zeros behind them. -/
def wrow (b : List UInt8) (k : Nat) : List Value := c32 (wds b k ++ List.replicate (80 - k) 0)
theorem wrow_len (b : List UInt8) (k : Nat) (h : k ≤ 80) : (wrow b k).length = 80 := by simp [wrow, c32_len, wds_len]; omega
theorem wrow_step (b : List UInt8) (k x : Nat) (h : k < 80) (hx : wds b (k + 1) = wds b k ++ [x]) : (wrow b k).set k (.int .u32 (x : Int)) = wrow b (k + 1) := by
  unfold wrow c32
  rw [← List.map_set, List.set_append_right _ _ (by rw [wds_len]; omega), wds_len, Nat.sub_self, show 80 - k = (80 - (k + 1)) + 1 by omega, List.replicate_succ, List.set_cons_zero, hx, List.append_assoc]
  rfl
theorem wrow_at (b : List UInt8) (k j : Nat) (h : j < k) (hk : k ≤ 80) : (wrow b k)[j]? = some (.int .u32 (((wds b k).getD j 0 : Nat) : Int)) := by
  unfold wrow
  rw [c32_at (by simp [wds_len]; omega)]
  simp [List.getD, List.getElem?_append, wds_len, h]
theorem wrow_is (b : List UInt8) (k j : Nat) (hk : k ≤ 80) (hj : j < 80) : ∃ v, (wrow b k)[j]? = some v := ⟨_, List.getElem?_eq_getElem (by rw [wrow_len b k hk]; exact hj)⟩

theorem zero80 (w : World) : (zeroValue 57).run Tryd.prog w = .ok (.agg (c32 (List.replicate 80 0)).toArray) w := by kernel_rfl
theorem c32_one (l : List Nat) : ∀ u ∈ c32 l, u.oneCell' = true := by
  intro u hu
  obtain ⟨_, _, rfl⟩ := List.mem_map.1 hu
  rfl
theorem word_drop (b : List UInt8) (t : Nat) : numb ((b.drop (4 * t)).take 4) = word b t := rfl
theorem wdx (b : List UInt8) (k : Nat) (h : 16 ≤ k) :
    bits BinOp.xor IntKind.u32 (bits BinOp.xor IntKind.u32 (bits BinOp.xor IntKind.u32 (((wds b k).getD (k - 3) 0 : Nat) : Int) (((wds b k).getD (k - 8) 0 : Nat) : Int)) (((wds b k).getD (k - 14) 0 : Nat) : Int)) (((wds b k).getD (k - 16) 0 : Nat) : Int) =
    (((wds b k).getD (k - 16 + 13) 0 ^^^ (wds b k).getD (k - 16 + 8) 0 ^^^ (wds b k).getD (k - 16 + 2) 0 ^^^ (wds b k).getD (k - 16) 0 : Nat) : Int) := by
  have hw := wds_lt b k
  rw [u32_xor_nat _ _ (all_getD hw _) (all_getD hw _), u32_xor_nat _ _ (xor32 (all_getD hw _) (all_getD hw _)) (all_getD hw _), u32_xor_nat _ _ (xor32 (xor32 (all_getD hw _) (all_getD hw _)) (all_getD hw _)) (all_getD hw _),
    show k - 16 + 13 = k - 3 by omega, show k - 16 + 8 = k - 8 by omega, show k - 16 + 2 = k - 14 by omega]

set_option maxHeartbeats 1000000 in
theorem schedule_any (b : List UInt8) (w : World) (hl : b.length = 64) :
    Calls Tryd.prog 26 #[.agg (cells b).toArray] w fun e w' => e = .returned (.agg (c32 (wds b 80)).toArray) ∧ Below w.heap.size w w' := by
  have hz := zero80
  go_enter Tryd.func26, Tryd.ntmps26
  go_wp2
  have hr0 : Blk (((w.alloc (Obj.cells (cells b).toArray 35)).alloc (Obj.cells (c32 (List.replicate 80 0)).toArray 57)).alloc (Obj.cells (c32 (List.replicate 80 0)).toArray 57)) w.heap.size 35 b := ((Blk.new _ _ b).alloc _).alloc _
  have hr1 : BlkV (((w.alloc (Obj.cells (cells b).toArray 35)).alloc (Obj.cells (c32 (List.replicate 80 0)).toArray 57)).alloc (Obj.cells (c32 (List.replicate 80 0)).toArray 57)) (w.heap.size + 1) 57 (c32 (List.replicate 80 0)) := (BlkV.new_at _ _ _ _ _ (by simp) rfl).alloc _
  have hr2 : BlkV (((w.alloc (Obj.cells (cells b).toArray 35)).alloc (Obj.cells (c32 (List.replicate 80 0)).toArray 57)).alloc (Obj.cells (c32 (List.replicate 80 0)).toArray 57)) (w.heap.size + 1 + 1) 57 (wrow b 0) := BlkV.new_at _ _ _ _ _ (by simp) rfl
  have hb0 : Below w.heap.size w (((w.alloc (Obj.cells (cells b).toArray 35)).alloc (Obj.cells (c32 (List.replicate 80 0)).toArray 57)).alloc (Obj.cells (c32 (List.replicate 80 0)).toArray 57)) := (((Below.refl _ _).alloc (Nat.le_refl _) _).alloc (by simp) _).alloc (by simp; omega) _
  clear hz
  go_loopw [8] (fun i wr => ∃ k : Nat, k ≤ 16 ∧ i = .int .i64 k ∧ Blk wr w.heap.size 35 b ∧ BlkV wr (w.heap.size + 1) 57 (c32 (List.replicate 80 0)) ∧ BlkV wr (w.heap.size + 1 + 1) 57 (wrow b k) ∧ Below w.heap.size w wr) (fun i _ => 16 - (intOf i).toNat)
  case atStart => exact ⟨0, by omega, rfl, hr0, hr1, hr2, hb0⟩
  case round =>
    obtain ⟨k, hk, rfl, h1, h2, h3, hb⟩ := hrel
    by_cases hlt : k < 16
    · have hrd := h1.rd (n := 64) (c := 64) hl (Nat.le_refl _) (by simp [maxLen])
      obtain ⟨v, hv⟩ := wrow_is b k k (by omega) (by omega)
      have hc3 := (h3.cell k).trans hv
      have hf3 := h3.frozen k
      have hwl := word_lt b k
      have hnum : Calls Tryd.prog 30 #[.slice (some ⟨w.heap.size, 0, none⟩) 64 64, .int .i64 (4 * (k : Int)), .int .i64 4] wr fun e w' => e = .returned (.tuple #[.int .u64 ((word b k : Nat) : Int), .bool true]) ∧ wr = w' :=
        num_yes _ _ _ b (4 * k) 4 wr hrd (by omega) (by omega) (by omega)
      have hst := wrow_step b k (word b k) (by omega) (wds_low b k hlt)
      have hs3 := h3.set_ k (.int .u32 ((word b k : Nat) : Int))
      rw [hst] at hs3
      have hs1 := h1.far (p := ⟨w.heap.size + 1 + 1, k, none⟩) (by simp; omega) (.int .u32 ((word b k : Nat) : Int))
      have hs2 := h2.far (p := ⟨w.heap.size + 1 + 1, k, none⟩) (by simp) (.int .u32 ((word b k : Nat) : Int))
      have hbs := hb.setCell (p := ⟨w.heap.size + 1 + 1, k, none⟩) (by simp; omega) (.int .u32 ((word b k : Nat) : Int))
      obtain ⟨x, hx⟩ : ∃ x, x = word b k := ⟨_, rfl⟩
      rw [← hx] at hwl hnum hst hs3 hs1 hs2 hbs
      clear hx hst hr0 hr1 hr2 hb0 hl
      have HN := Lib.hid hnum
      clear hnum hv
      go_wp2_with (first | (go_at_call 30; ((with_reducible refine (Hid.out HN).mono ?_); rintro e w' ⟨rfl, rfl⟩)))
      go_roundw
      case rel => exact ⟨k + 1, by omega, by go_num, hs1, hs2, hs3, hbs⟩
      case measure => simp [intOf]; omega
    · obtain rfl : k = 16 := by omega
      clear hr0 hr1 hr2 hb0
      go_wp2
      simp only [Int.cast_ofNat_Int]
      go_loopw [7] (fun i wx => ∃ k : Nat, 16 ≤ k ∧ k ≤ 80 ∧ i = .int .i64 k ∧ BlkV wx (w.heap.size + 1) 57 (c32 (List.replicate 80 0)) ∧ BlkV wx (w.heap.size + 1 + 1) 57 (wrow b k) ∧ Below w.heap.size w wx) (fun i _ => 80 - (intOf i).toNat)
      case atStart => exact ⟨16, by omega, by omega, rfl, h2, h3, hb⟩
      case round =>
        obtain ⟨k, hk0, hk, rfl, g2, g3, gb⟩ := hrel
        by_cases hlt : k < 80
        · have hx := wdx b k hk0
          obtain ⟨x, hxx⟩ : ∃ x, x = (((wds b k).getD (k - 16 + 13) 0 ^^^ (wds b k).getD (k - 16 + 8) 0 ^^^ (wds b k).getD (k - 16 + 2) 0 ^^^ (wds b k).getD (k - 16) 0 : Nat)) := ⟨_, rfl⟩
          have hxl := nextX_lt (wds_lt b k) (k - 16)
          have hst := wrow_step b k (rot 1 x) (by omega) (by rw [wds_high b k hk0, nextW, hxx])
          rw [← hxx] at hx hxl
          obtain ⟨v, hv⟩ := wrow_is b k k (by omega) (by omega)
          have hc := (g3.cell k).trans hv
          have hf := g3.frozen k
          have c1 := (g3.cell (k - 3)).trans (wrow_at b k (k - 3) (by omega) (by omega))
          have c2 := (g3.cell (k - 8)).trans (wrow_at b k (k - 8) (by omega) (by omega))
          have c3 := (g3.cell (k - 14)).trans (wrow_at b k (k - 14) (by omega) (by omega))
          have c4 := (g3.cell (k - 16)).trans (wrow_at b k (k - 16) (by omega) (by omega))
          have hs3 := g3.set_ k (.int .u32 ((rot 1 x : Nat) : Int))
          rw [hst] at hs3
          have hs2 := g2.far (p := ⟨w.heap.size + 1 + 1, k, none⟩) (by simp) (.int .u32 ((rot 1 x : Nat) : Int))
          have hbs := gb.setCell (p := ⟨w.heap.size + 1 + 1, k, none⟩) (by simp; omega) (.int .u32 ((rot 1 x : Nat) : Int))
          obtain ⟨y1, hy1⟩ : ∃ y : Nat, y = (wds b k).getD (k - 3) 0 := ⟨_, rfl⟩
          obtain ⟨y2, hy2⟩ : ∃ y : Nat, y = (wds b k).getD (k - 8) 0 := ⟨_, rfl⟩
          obtain ⟨y3, hy3⟩ : ∃ y : Nat, y = (wds b k).getD (k - 14) 0 := ⟨_, rfl⟩
          obtain ⟨y4, hy4⟩ : ∃ y : Nat, y = (wds b k).getD (k - 16) 0 := ⟨_, rfl⟩
          rw [← hy1] at c1 hx
          rw [← hy2] at c2 hx
          rw [← hy3] at c3 hx
          rw [← hy4] at c4 hx
          clear hst hxx hv hy1 hy2 hy3 hy4 h1 h2 h3 hb hl
          have hlt' : (k : Int) < 80 := by omega
          have b1 : (16 : Int) ≤ (k : Int) := by omega
          go_wp2
          have s3 : IntKind.i64.wrap ((k : Int) - 3) = (k : Int) - 3 := IntWalk.i64_in _ (by omega)
          have p3 : 0 ≤ (k : Int) - 3 := by omega
          have t3 : 3 ≤ (k : Int) := by omega
          have q3 : (k : Int) - 3 < 80 := by omega
          have r3 : ((k : Int) - 3).toNat = k - 3 := by omega
          have s8 : IntKind.i64.wrap ((k : Int) - 8) = (k : Int) - 8 := IntWalk.i64_in _ (by omega)
          have p8 : 0 ≤ (k : Int) - 8 := by omega
          have t8 : 8 ≤ (k : Int) := by omega
          have q8 : (k : Int) - 8 < 80 := by omega
          have r8 : ((k : Int) - 8).toNat = k - 8 := by omega
          have s14 : IntKind.i64.wrap ((k : Int) - 14) = (k : Int) - 14 := IntWalk.i64_in _ (by omega)
          have p14 : 0 ≤ (k : Int) - 14 := by omega
          have t14 : 14 ≤ (k : Int) := by omega
          have q14 : (k : Int) - 14 < 80 := by omega
          have r14 : ((k : Int) - 14).toNat = k - 14 := by omega
          have s16 : IntKind.i64.wrap ((k : Int) - 16) = (k : Int) - 16 := IntWalk.i64_in _ (by omega)
          have p16 : 0 ≤ (k : Int) - 16 := by omega
          have t16 : 16 ≤ (k : Int) := by omega
          have q16 : (k : Int) - 16 < 80 := by omega
          have r16 : ((k : Int) - 16).toNat = k - 16 := by omega
          go_still_tail 21, (by kernel_rfl)
          still_call ((rotl1 x _ hxl).mono fun _ _ ⟨h, h2⟩ => ⟨h, h2.symm⟩)
          refine wpStill_nil ?_
          change wpList _ _ _ _ _ wr.drew
          clear s3 s8 s14 s16 p3 p8 p14 p16 q3 q8 q14 q16 r3 r8 r14 r16 t3 t8 t14 t16 c1 c2 c3 c4 hx
          go_wp2
          go_roundw
          case rel => exact ⟨k + 1, by omega, by omega, by go_num, hs2, hs3, hbs.drew⟩
          case measure => simp [intOf]; omega
        · obtain rfl : k = 80 := by omega
          have e80 : wrow b 80 = c32 (wds b 80) := by simp [wrow]
          rw [e80] at g3
          have hl80 : (c32 (wds b 80)).length = 80 := by rw [c32_len, wds_len]
          have HL := Lib.hid hl80
          have HE := Lib.hid e80
          clear hl80 e80
          go_wp2_with (first
            | (with_reducible refine wpList_ld rfl 57 (.tmp 3) rfl (w.heap.size + 1 + 1) 0 rfl (c32 (wds b 80)) (g3.range 0 _ (by simp)) (row80 HL.out) ?_)
            | (with_reducible refine wpList_st rfl 57 (.tmp 2) (.tmp 49) rfl (w.heap.size + 1) 0 (c32 (wds b 80)) rfl rfl 57 _ g2 (by rw [HL.out]; simp [c32_len]) (row80 HL.out) (c32_one _) ?_; intro w2 hB2 ho2))
          rw [splice_all _ _ (by rw [HL.out]; simp [c32_len])] at hB2
          exact ret_row (by rfl) (by rfl) hB2 (row80 HL.out) (by rfl) ⟨rfl, gb.trans (ho2.below (by omega))⟩

theorem rangeS {s : S5} {w : World} {g : Nat} {e : TypeId} (h : BlkV w g e (c32 s.l)) : w.cell? ⟨g, 0, none⟩ = some (.int .u32 (s.a : Int)) ∧ w.cell? ⟨g, 1, none⟩ = some (.int .u32 (s.b : Int)) ∧ w.cell? ⟨g, 2, none⟩ = some (.int .u32 (s.c : Int)) ∧ w.cell? ⟨g, 3, none⟩ = some (.int .u32 (s.d : Int)) ∧ w.cell? ⟨g, 4, none⟩ = some (.int .u32 (s.e : Int)) :=
  ⟨(h.cell 0).trans rfl, (h.cell 1).trans rfl, (h.cell 2).trans rfl, (h.cell 3).trans rfl, (h.cell 4).trans rfl⟩

theorem told_arr (s : S5) (w : World) (hs : s.ok) :
    Calls Tryd.prog 25 #[.agg (c32 s.l).toArray] w fun e w' => e = .returned (.agg (cells (toldN s 20)).toArray) ∧ Below w.heap.size w w' := told_any s w hs

end Go.Proofs.YtihaiplkkamkoaaDoor
