/- Several texts in one: Contracts of package sha's functions on blocks. Contracts of package sha: a block laid upon the words. No statement is proved here. -/
import Derived.Test.YtmkeioeodlidgaaDoorZM6
import Derived.Test.YtmkeioeodlidgaaDoorZOct
import Derived.Test.YtmkeioeodlidgaaDoorZM0
import Derived.BigQuiet
import Derived.Deep.RegionHeld3
import Derived.Deep.DrawnRows
import Derived.IntWalk
import Derived.StillTailTactics
namespace Go.Proofs.YtmkeioeodlidgaaDoor
open Go.RowKit
set_option linter.unusedVariables false

theorem row20_ : RowTy Tryd.prog 56 20 := ⟨_, Tryd.underlying56, rfl, by kernel_rfl⟩
theorem row20 {n : Nat} (h : n = 20) : RowTy Tryd.prog 56 n := h ▸ row20_
theorem row5_ : RowTy Tryd.prog 134 5 := ⟨_, Tryd.underlying134, rfl, by kernel_rfl⟩
theorem row5 {n : Nat} (h : n = 5) : RowTy Tryd.prog 134 n := h ▸ row5_
theorem row64_ : RowTy Tryd.prog 107 64 := ⟨_, Tryd.underlying107, rfl, by kernel_rfl⟩
theorem row64 {n : Nat} (h : n = 64) : RowTy Tryd.prog 107 n := h ▸ row64_
theorem row80_ : RowTy Tryd.prog 149 80 := ⟨_, Tryd.underlying149, rfl, by kernel_rfl⟩
theorem row80 {n : Nat} (h : n = 80) : RowTy Tryd.prog 149 n := h ▸ row80_
theorem row70_ : RowTy Tryd.prog 136 70 := ⟨_, Tryd.underlying136, rfl, by kernel_rfl⟩
theorem row70 {n : Nat} (h : n = 70) : RowTy Tryd.prog 136 n := h ▸ row70_

/-- Words as cells. -/
def c32 (l : List Nat) : List Value := l.map fun (x : Nat) => Value.int .u32 (x : Int)
theorem c32_at {l : List Nat} {j : Nat} (h : j < l.length) : (c32 l)[j]? = some (.int .u32 ((l.getD j 0 : Nat) : Int)) := by
  simp [c32, List.getD, h]
theorem c32_len (l : List Nat) : (c32 l).length = l.length := by simp [c32]
/-- The five words as a value. -/
def S5.val (s : S5) : Value := .agg #[.int .u32 (s.a : Int), .int .u32 (s.b : Int), .int .u32 (s.c : Int), .int .u32 (s.d : Int), .int .u32 (s.e : Int)]

theorem told_step (s : S5) (k : Nat) (hk : k < 20) : (toldN s k ++ List.replicate (20 - k) 0).set k (toldB s k) = toldN s (k + 1) ++ List.replicate (20 - (k + 1)) 0 := by
  rw [List.set_append_right _ _ (by rw [toldN_len]; omega), toldN_len, Nat.sub_self, show 20 - k = (20 - (k + 1)) + 1 by omega, List.replicate_succ, List.set_cons_zero, toldN_succ, List.append_assoc]
  rfl
theorem u8_of (x : Nat) : ((UInt8.ofNat x).toNat : Int) = (x : Int) % 256 := by rw [UInt8.toNat_ofNat']; omega
theorem S5.cell_at {w : World} {g : Nat} {e : TypeId} {s : S5} (h : BlkV w g e (c32 s.l)) (j : Nat) (hj : j < 5) : w.cell? ⟨g, j, none⟩ = some (.int .u32 ((s.l.getD j 0 : Nat) : Int)) := by
  rw [h.cell, c32_at (by simpa [S5.l] using hj)]

set_option maxHeartbeats 1000000 in
theorem told_any (s : S5) (w : World) (hs : s.ok) :
    Calls Tryd.prog 76 #[s.val] w fun e w' => e = .returned (.agg (cells (toldN s 20)).toArray) ∧ Below w.heap.size w w' := by
  unfold S5.val
  go_enter Tryd.func76, Tryd.ntmps76
  go_wp2
  go_loopw [5] (fun i wr => ∃ k : Nat, k ≤ 20 ∧ i = .int .i64 k ∧ BlkV wr w.heap.size 134 (c32 s.l) ∧ Blk wr (w.heap.size + 1) 56 (List.replicate 20 0) ∧ Blk wr (w.heap.size + 1 + 1) 56 (toldN s k ++ List.replicate (20 - k) 0) ∧ Below w.heap.size w wr) (fun i _ => 20 - (intOf i).toNat)
  case atStart =>
    refine ⟨0, by omega, rfl, ?_, ?_, ?_, ?_⟩
    · exact ((BlkV.new _ _ (c32 s.l)).alloc _).alloc _
    · exact (Blk.new_at _ _ _ (List.replicate 20 0) _ (by simp) rfl).alloc _
    · exact Blk.new_at _ _ _ (List.replicate 20 0) _ (by simp) rfl
    · exact (((Below.refl _ _).alloc (Nat.le_refl _) _).alloc (by simp) _).alloc (by simp; omega) _
  case round =>
    obtain ⟨k, hk, rfl, h1, h2, h3, hb⟩ := hrel
    by_cases hlt : k < 20
    · have hcell := S5.cell_at h1 (k / 4) (by omega)
      have hcell3 := h3.cell (j := k) (by rw [List.length_append, toldN_len, List.length_replicate]; omega)
      have hfr := h3.frozen k
      have hx := all_getD (S5.l_lt hs) (k / 4)
      obtain ⟨x, hxx⟩ : ∃ x, x = s.l.getD (k / 4) 0 := ⟨_, rfl⟩
      rw [← hxx] at hcell hx
      obtain ⟨y, hy⟩ : ∃ y : Value, y = (.int .u8 (((toldN s k ++ List.replicate (20 - k) 0).getD k 0).toNat : Int)) := ⟨_, rfl⟩
      rw [← hy] at hcell3
      clear hy
      have HX := Lib.hid hxx
      clear hxx
      have e1 : Value.int IntKind.u8 ((x : Int) / 2 ^ (24 - 8 * (k % 4)) % 256) = .int .u8 ((toldB s k).toNat : Int) := by
        unfold toldB
        rw [u8_of, ← HX.out]
        simp
      have hs3 := h3.set_ k (toldB s k)
      rw [told_step s k hlt, ← e1] at hs3
      have hs1 := h1.far (p := ⟨w.heap.size + 1 + 1, k, none⟩) (by simp; omega) (Value.int IntKind.u8 ((x : Int) / 2 ^ (24 - 8 * (k % 4)) % 256))
      have hs2 := h2.far (p := ⟨w.heap.size + 1 + 1, k, none⟩) (by simp) (Value.int IntKind.u8 ((x : Int) / 2 ^ (24 - 8 * (k % 4)) % 256))
      have hbs := hb.setCell (p := ⟨w.heap.size + 1 + 1, k, none⟩) (by simp; omega) (Value.int IntKind.u8 ((x : Int) / 2 ^ (24 - 8 * (k % 4)) % 256))
      clear e1
      go_wp2
      go_roundw
      case rel => exact ⟨k + 1, by omega, by go_num, hs1, hs2, hs3, hbs⟩
      case measure => simp [intOf]; omega
    · obtain rfl : k = 20 := by omega
      have h3' : Blk wr (w.heap.size + 1 + 1) 56 (toldN s 20) := by simpa using h3
      clear h3
      go_wp2_with (first
        | (with_reducible refine wpList_ld rfl 56 (.tmp 3) rfl (w.heap.size + 1 + 1) 0 rfl (cells (toldN s 20)) (h3'.v.range 0 _ (by simp)) (row20 (by rw [length_cells, toldN_len])) ?_)
        | (with_reducible refine wpList_st rfl 56 (.tmp 2) (.tmp 21) rfl (w.heap.size + 1) 0 (cells (toldN s 20)) rfl rfl 56 _ h2.v (by simp [length_cells, toldN_len]) (row20 (by rw [length_cells, toldN_len])) (cells_one _) ?_; intro w2 hB2 ho2))
      rw [splice_all _ _ (by simp [length_cells, toldN_len])] at hB2
      exact ret_row (by rfl) (by rfl) hB2 (row20 (by rw [length_cells, toldN_len])) (by rfl) ⟨rfl, hb.trans (ho2.below (by omega))⟩

set_option maxRecDepth 100000 in
theorem wds_at (b : List UInt8) (k j : Nat) (h : j < k) : (wds b k)[j]? = some ((wds b k).getD j 0) := by
  simp [List.getD, show j < (wds b k).length by rw [wds_len]; exact h]
/-- The words that a loop has laid, and zeros behind them. -/
def wrow (b : List UInt8) (k : Nat) : List Value := c32 (wds b k ++ List.replicate (80 - k) 0)
set_option maxRecDepth 100000 in
theorem wrow_len (b : List UInt8) (k : Nat) (h : k ≤ 80) : (wrow b k).length = 80 := by simp [wrow, c32_len, wds_len]; omega
set_option maxRecDepth 100000 in
theorem wrow_step (b : List UInt8) (k x : Nat) (h : k < 80) (hx : wds b (k + 1) = wds b k ++ [x]) : (wrow b k).set k (.int .u32 (x : Int)) = wrow b (k + 1) := by
  unfold wrow c32
  rw [← List.map_set, List.set_append_right _ _ (by rw [wds_len]; omega), wds_len, Nat.sub_self, show 80 - k = (80 - (k + 1)) + 1 by omega, List.replicate_succ, List.set_cons_zero, hx, List.append_assoc]
  rfl
set_option maxRecDepth 100000 in
theorem wrow_at (b : List UInt8) (k j : Nat) (h : j < k) (hk : k ≤ 80) : (wrow b k)[j]? = some (.int .u32 (((wds b k).getD j 0 : Nat) : Int)) := by
  unfold wrow
  rw [c32_at (by simp [wds_len]; omega)]
  simp [List.getD, List.getElem?_append, wds_len, h]
set_option maxRecDepth 100000 in
theorem wrow_is (b : List UInt8) (k j : Nat) (hk : k ≤ 80) (hj : j < 80) : ∃ v, (wrow b k)[j]? = some v := ⟨_, List.getElem?_eq_getElem (by rw [wrow_len b k hk]; exact hj)⟩

set_option maxRecDepth 100000 in
theorem zero80 (w : World) : (zeroValue 149).run Tryd.prog w = .ok (.agg (c32 (List.replicate 80 0)).toArray) w := by kernel_rfl
set_option maxRecDepth 100000 in
theorem c32_one (l : List Nat) : ∀ u ∈ c32 l, u.oneCell' = true := by
  intro u hu
  obtain ⟨_, _, rfl⟩ := List.mem_map.1 hu
  rfl
set_option maxRecDepth 100000 in
theorem word_drop (b : List UInt8) (t : Nat) : numb ((b.drop (4 * t)).take 4) = word b t := rfl
set_option maxRecDepth 100000 in
theorem wdx (b : List UInt8) (k : Nat) (h : 16 ≤ k) :
    bits BinOp.xor IntKind.u32 (bits BinOp.xor IntKind.u32 (bits BinOp.xor IntKind.u32 (((wds b k).getD (k - 3) 0 : Nat) : Int) (((wds b k).getD (k - 8) 0 : Nat) : Int)) (((wds b k).getD (k - 14) 0 : Nat) : Int)) (((wds b k).getD (k - 16) 0 : Nat) : Int) =
    (((wds b k).getD (k - 16 + 13) 0 ^^^ (wds b k).getD (k - 16 + 8) 0 ^^^ (wds b k).getD (k - 16 + 2) 0 ^^^ (wds b k).getD (k - 16) 0 : Nat) : Int) := by
  have hw := wds_lt b k
  rw [u32_xor_nat _ _ (all_getD hw _) (all_getD hw _), u32_xor_nat _ _ (xor32 (all_getD hw _) (all_getD hw _)) (all_getD hw _), u32_xor_nat _ _ (xor32 (xor32 (all_getD hw _) (all_getD hw _)) (all_getD hw _)) (all_getD hw _),
    show k - 16 + 13 = k - 3 by omega, show k - 16 + 8 = k - 8 by omega, show k - 16 + 2 = k - 14 by omega]

set_option maxRecDepth 100000 in
set_option maxHeartbeats 1000000 in
theorem schedule_any (b : List UInt8) (w : World) (hl : b.length = 64) :
    Calls Tryd.prog 82 #[.agg (cells b).toArray] w fun e w' => e = .returned (.agg (c32 (wds b 80)).toArray) ∧ Below w.heap.size w w' := by
  have hz := zero80
  go_enter Tryd.func82, Tryd.ntmps82
  go_wp2
  have hr0 : Blk (((w.alloc (Obj.cells (cells b).toArray 107)).alloc (Obj.cells (c32 (List.replicate 80 0)).toArray 149)).alloc (Obj.cells (c32 (List.replicate 80 0)).toArray 149)) w.heap.size 107 b := ((Blk.new _ _ b).alloc _).alloc _
  have hr1 : BlkV (((w.alloc (Obj.cells (cells b).toArray 107)).alloc (Obj.cells (c32 (List.replicate 80 0)).toArray 149)).alloc (Obj.cells (c32 (List.replicate 80 0)).toArray 149)) (w.heap.size + 1) 149 (c32 (List.replicate 80 0)) := (BlkV.new_at _ _ _ _ _ (by simp) rfl).alloc _
  have hr2 : BlkV (((w.alloc (Obj.cells (cells b).toArray 107)).alloc (Obj.cells (c32 (List.replicate 80 0)).toArray 149)).alloc (Obj.cells (c32 (List.replicate 80 0)).toArray 149)) (w.heap.size + 1 + 1) 149 (wrow b 0) := BlkV.new_at _ _ _ _ _ (by simp) rfl
  have hb0 : Below w.heap.size w (((w.alloc (Obj.cells (cells b).toArray 107)).alloc (Obj.cells (c32 (List.replicate 80 0)).toArray 149)).alloc (Obj.cells (c32 (List.replicate 80 0)).toArray 149)) := (((Below.refl _ _).alloc (Nat.le_refl _) _).alloc (by simp) _).alloc (by simp; omega) _
  clear hz
  go_loopw [8] (fun i wr => ∃ k : Nat, k ≤ 16 ∧ i = .int .i64 k ∧ Blk wr w.heap.size 107 b ∧ BlkV wr (w.heap.size + 1) 149 (c32 (List.replicate 80 0)) ∧ BlkV wr (w.heap.size + 1 + 1) 149 (wrow b k) ∧ Below w.heap.size w wr) (fun i _ => 16 - (intOf i).toNat)
  case atStart => exact ⟨0, by omega, rfl, hr0, hr1, hr2, hb0⟩
  case round =>
    obtain ⟨k, hk, rfl, h1, h2, h3, hb⟩ := hrel
    by_cases hlt : k < 16
    · have hrd := h1.rd (n := 64) (c := 64) hl (Nat.le_refl _) (by simp [maxLen])
      obtain ⟨v, hv⟩ := wrow_is b k k (by omega) (by omega)
      have hc3 := (h3.cell k).trans hv
      have hf3 := h3.frozen k
      have hwl := word_lt b k
      have hnum : Calls Tryd.prog 13 #[.slice (some ⟨w.heap.size, 0, none⟩) 64 64, .int .i64 (4 * (k : Int)), .int .i64 4] wr fun e w' => e = .returned (.tuple #[.int .u64 ((word b k : Nat) : Int), .bool true]) ∧ wr = w' :=
        num_yes _ _ _ b (4 * k) 4 wr hrd (by omega) (by omega) (by omega)
      have hst := wrow_step b k (word b k) (by omega) (wds_low b k hlt)
      have hs3 := h3.set_ k (.int .u32 ((word b k : Nat) : Int))
      rw [hst] at hs3
      have hs1 := h1.far (p := ⟨w.heap.size + 1 + 1, k, none⟩) (by simp; omega) (.int .u32 ((word b k : Nat) : Int))
      have hs2 := h2.far (p := ⟨w.heap.size + 1 + 1, k, none⟩) (by simp) (.int .u32 ((word b k : Nat) : Int))
      have hbs := hb.setCell (p := ⟨w.heap.size + 1 + 1, k, none⟩) (by simp; omega) (.int .u32 ((word b k : Nat) : Int))
      obtain ⟨x, hx⟩ : ∃ x, x = word b k := ⟨_, rfl⟩
      rw [← hx] at hwl hnum hst hs3 hs1 hs2 hbs
      clear hx hst hr0 hr1 hr2 hb0 hl
      have HN := Lib.hid hnum
      clear hnum hv
      go_wp2_with (first | (go_at_call 13; ((with_reducible refine (Hid.out HN).mono ?_); rintro e w' ⟨rfl, rfl⟩)))
      go_roundw
      case rel => exact ⟨k + 1, by omega, by go_num, hs1, hs2, hs3, hbs⟩
      case measure => simp [intOf]; omega
    · obtain rfl : k = 16 := by omega
      clear hr0 hr1 hr2 hb0
      go_wp2
      simp only [Int.cast_ofNat_Int]
      go_loopw [7] (fun i wx => ∃ k : Nat, 16 ≤ k ∧ k ≤ 80 ∧ i = .int .i64 k ∧ BlkV wx (w.heap.size + 1) 149 (c32 (List.replicate 80 0)) ∧ BlkV wx (w.heap.size + 1 + 1) 149 (wrow b k) ∧ Below w.heap.size w wx) (fun i _ => 80 - (intOf i).toNat)
      case atStart => exact ⟨16, by omega, by omega, rfl, h2, h3, hb⟩
      case round =>
        obtain ⟨k, hk0, hk, rfl, g2, g3, gb⟩ := hrel
        by_cases hlt : k < 80
        · have hx := wdx b k hk0
          obtain ⟨x, hxx⟩ : ∃ x, x = (((wds b k).getD (k - 16 + 13) 0 ^^^ (wds b k).getD (k - 16 + 8) 0 ^^^ (wds b k).getD (k - 16 + 2) 0 ^^^ (wds b k).getD (k - 16) 0 : Nat)) := ⟨_, rfl⟩
          have hxl := nextX_lt (wds_lt b k) (k - 16)
          have hst := wrow_step b k (rot 1 x) (by omega) (by rw [wds_high b k hk0, nextW, hxx])
          rw [← hxx] at hx hxl
          obtain ⟨v, hv⟩ := wrow_is b k k (by omega) (by omega)
          have hc := (g3.cell k).trans hv
          have hf := g3.frozen k
          have c1 := (g3.cell (k - 3)).trans (wrow_at b k (k - 3) (by omega) (by omega))
          have c2 := (g3.cell (k - 8)).trans (wrow_at b k (k - 8) (by omega) (by omega))
          have c3 := (g3.cell (k - 14)).trans (wrow_at b k (k - 14) (by omega) (by omega))
          have c4 := (g3.cell (k - 16)).trans (wrow_at b k (k - 16) (by omega) (by omega))
          have hs3 := g3.set_ k (.int .u32 ((rot 1 x : Nat) : Int))
          rw [hst] at hs3
          have hs2 := g2.far (p := ⟨w.heap.size + 1 + 1, k, none⟩) (by simp) (.int .u32 ((rot 1 x : Nat) : Int))
          have hbs := gb.setCell (p := ⟨w.heap.size + 1 + 1, k, none⟩) (by simp; omega) (.int .u32 ((rot 1 x : Nat) : Int))
          obtain ⟨y1, hy1⟩ : ∃ y : Nat, y = (wds b k).getD (k - 3) 0 := ⟨_, rfl⟩
          obtain ⟨y2, hy2⟩ : ∃ y : Nat, y = (wds b k).getD (k - 8) 0 := ⟨_, rfl⟩
          obtain ⟨y3, hy3⟩ : ∃ y : Nat, y = (wds b k).getD (k - 14) 0 := ⟨_, rfl⟩
          obtain ⟨y4, hy4⟩ : ∃ y : Nat, y = (wds b k).getD (k - 16) 0 := ⟨_, rfl⟩
          rw [← hy1] at c1 hx
          rw [← hy2] at c2 hx
          rw [← hy3] at c3 hx
          rw [← hy4] at c4 hx
          clear hst hxx hv hy1 hy2 hy3 hy4 h1 h2 h3 hb hl
          have hlt' : (k : Int) < 80 := by omega
          have b1 : (16 : Int) ≤ (k : Int) := by omega
          go_wp2
          have s3 : IntKind.i64.wrap ((k : Int) - 3) = (k : Int) - 3 := IntWalk.i64_in _ (by omega)
          have p3 : 0 ≤ (k : Int) - 3 := by omega
          have t3 : 3 ≤ (k : Int) := by omega
          have q3 : (k : Int) - 3 < 80 := by omega
          have r3 : ((k : Int) - 3).toNat = k - 3 := by omega
          have s8 : IntKind.i64.wrap ((k : Int) - 8) = (k : Int) - 8 := IntWalk.i64_in _ (by omega)
          have p8 : 0 ≤ (k : Int) - 8 := by omega
          have t8 : 8 ≤ (k : Int) := by omega
          have q8 : (k : Int) - 8 < 80 := by omega
          have r8 : ((k : Int) - 8).toNat = k - 8 := by omega
          have s14 : IntKind.i64.wrap ((k : Int) - 14) = (k : Int) - 14 := IntWalk.i64_in _ (by omega)
          have p14 : 0 ≤ (k : Int) - 14 := by omega
          have t14 : 14 ≤ (k : Int) := by omega
          have q14 : (k : Int) - 14 < 80 := by omega
          have r14 : ((k : Int) - 14).toNat = k - 14 := by omega
          have s16 : IntKind.i64.wrap ((k : Int) - 16) = (k : Int) - 16 := IntWalk.i64_in _ (by omega)
          have p16 : 0 ≤ (k : Int) - 16 := by omega
          have t16 : 16 ≤ (k : Int) := by omega
          have q16 : (k : Int) - 16 < 80 := by omega
          have r16 : ((k : Int) - 16).toNat = k - 16 := by omega
          go_still_tail 21, (by kernel_rfl)
          still_call ((rotl1 x _ hxl).mono fun _ _ ⟨h, h2⟩ => ⟨h, h2.symm⟩)
          refine wpStill_nil ?_
          change wpList _ _ _ _ _ wr.drew
          clear s3 s8 s14 s16 p3 p8 p14 p16 q3 q8 q14 q16 r3 r8 r14 r16 t3 t8 t14 t16 c1 c2 c3 c4 hx
          go_wp2
          go_roundw
          case rel => exact ⟨k + 1, by omega, by omega, by go_num, hs2, hs3, hbs.drew⟩
          case measure => simp [intOf]; omega
        · obtain rfl : k = 80 := by omega
          have e80 : wrow b 80 = c32 (wds b 80) := by simp [wrow]
          rw [e80] at g3
          have hl80 : (c32 (wds b 80)).length = 80 := by rw [c32_len, wds_len]
          have HL := Lib.hid hl80
          have HE := Lib.hid e80
          clear hl80 e80
          go_wp2_with (first
            | (with_reducible refine wpList_ld rfl 149 (.tmp 3) rfl (w.heap.size + 1 + 1) 0 rfl (c32 (wds b 80)) (g3.range 0 _ (by simp)) (row80 HL.out) ?_)
            | (with_reducible refine wpList_st rfl 149 (.tmp 2) (.tmp 49) rfl (w.heap.size + 1) 0 (c32 (wds b 80)) rfl rfl 149 _ g2 (by rw [HL.out]; simp [c32_len]) (row80 HL.out) (c32_one _) ?_; intro w2 hB2 ho2))
          rw [splice_all _ _ (by rw [HL.out]; simp [c32_len])] at hB2
          exact ret_row (by rfl) (by rfl) hB2 (row80 HL.out) (by rfl) ⟨rfl, gb.trans (ho2.below (by omega))⟩

theorem rangeS {s : S5} {w : World} {g : Nat} {e : TypeId} (h : BlkV w g e (c32 s.l)) : w.cell? ⟨g, 0, none⟩ = some (.int .u32 (s.a : Int)) ∧ w.cell? ⟨g, 1, none⟩ = some (.int .u32 (s.b : Int)) ∧ w.cell? ⟨g, 2, none⟩ = some (.int .u32 (s.c : Int)) ∧ w.cell? ⟨g, 3, none⟩ = some (.int .u32 (s.d : Int)) ∧ w.cell? ⟨g, 4, none⟩ = some (.int .u32 (s.e : Int)) :=
  ⟨(h.cell 0).trans rfl, (h.cell 1).trans rfl, (h.cell 2).trans rfl, (h.cell 3).trans rfl, (h.cell 4).trans rfl⟩

theorem told_arr (s : S5) (w : World) (hs : s.ok) :
    Calls Tryd.prog 76 #[.agg (c32 s.l).toArray] w fun e w' => e = .returned (.agg (cells (toldN s 20)).toArray) ∧ Below w.heap.size w w' := told_any s w hs

end Go.Proofs.YtmkeioeodlidgaaDoor

namespace Go.Proofs.YtmkeioeodlidgaaDoor
open Go.RowKit
set_option linter.unusedVariables false

set_option maxRecDepth 100000 in
set_option maxHeartbeats 1000000 in
theorem withBlock_any (s : S5) (b : List UInt8) (w : World) (hs : s.ok) (hl : b.length = 64) :
    Calls Tryd.prog 74 #[.agg (c32 s.l).toArray, .agg (cells b).toArray] w fun e w' => e = .returned (.agg (c32 (blockW s b).l).toArray) ∧ Below w.heap.size w w' := by
  have hz := zero80
  have k1 : ∀ C : Array Value, BlkV (((w.alloc (Obj.cells (c32 s.l).toArray 134)).alloc (Obj.cells (cells b).toArray 107)).alloc (Obj.cells C 134)) (w.heap.size + 1) 107 (cells b) := fun C => (BlkV.new_at _ _ _ _ _ (by simp) rfl).alloc _
  have k0 : ∀ C : Array Value, BlkV (((w.alloc (Obj.cells (c32 s.l).toArray 134)).alloc (Obj.cells (cells b).toArray 107)).alloc (Obj.cells C 134)) w.heap.size 134 (c32 s.l) := fun C => ((BlkV.new _ _ _).alloc _).alloc _
  have k2 : BlkV (((w.alloc (Obj.cells (c32 s.l).toArray 134)).alloc (Obj.cells (cells b).toArray 107)).alloc (Obj.cells #[.int .u32 0, .int .u32 0, .int .u32 0, .int .u32 0, .int .u32 0] 134)) (w.heap.size + 1 + 1) 134 (c32 [0, 0, 0, 0, 0]) := BlkV.new_at _ _ _ _ _ (by simp) rfl
  have hb0 : ∀ C : Array Value, Below w.heap.size w (((w.alloc (Obj.cells (c32 s.l).toArray 134)).alloc (Obj.cells (cells b).toArray 107)).alloc (Obj.cells C 134)) := fun C => (((Below.refl _ _).alloc (Nat.le_refl _) _).alloc (by simp) _).alloc (by simp; omega) _
  have K1 := Lib.hid k1
  have K0 := Lib.hid k0
  have K2 := Lib.hid k2
  have HB0 := Lib.hid hb0
  have HL := Lib.hid hl
  clear k1 k0 k2 hb0 hl
  have hwl := wds_lt b 80
  have hwn := wds_len b 80
  have hsc := fun w => schedule_any b w HL.out
  have hbk : blockW s b = s.plus (rnds (wds b 80) s 80) := rfl
  rw [hbk]
  clear hbk
  obtain ⟨W, hW⟩ : ∃ W, W = wds b 80 := ⟨_, rfl⟩
  rw [← hW] at hwl hwn hsc ⊢
  clear hW
  have HC := Lib.hid hsc
  have HN := Lib.hid hwn
  have HWL := Lib.hid hwl
  clear hsc hwl hwn
  go_enter Tryd.func74, Tryd.ntmps74
  go_wp2_with (first
    | (with_reducible refine wpList_ld rfl 107 (.tmp 3) rfl (w.heap.size + 1) 0 rfl (cells b) ((Hid.out K1 _).range 0 _ (by simp)) (row64 (by rw [length_cells]; exact HL.out)) ?_)
    | (go_at_call 82; ((with_reducible refine (Hid.out HC _).mono ?_); rintro e w1 ⟨rfl, hb1⟩))
    | (with_reducible refine wpList_st rfl 149 (.tmp 5) (.tmp 16) rfl w1.heap.size 0 (c32 W) rfl rfl 149 (c32 (List.replicate 80 0)) (BlkV.new _ _ _) (by rw [c32_len, HN.out, c32_len]; simp) (row80 (by rw [c32_len]; exact HN.out)) (c32_one _) ?_; intro w2 hB2 ho2))
  have hz1 := hb1.size
  simp only [World.size_alloc] at hz1
  have f0 := ((K0.out _).below hb1 (by simp; omega)).alloc (.cells (c32 (List.replicate 80 0)).toArray 149) |>.only ho2 (by omega)
  have f2 := ((K2.out).below hb1 (by simp)).alloc (.cells (c32 (List.replicate 80 0)).toArray 149) |>.only ho2 (by omega)
  have fb := (((HB0.out _).trans (hb1.mono (by simp; omega))).alloc (by omega) (.cells (c32 (List.replicate 80 0)).toArray 149)).trans (ho2.below (B := w.heap.size) (by omega))
  rw [splice_all _ _ (by rw [c32_len, c32_len, HN.out]; simp)] at hB2
  have hz1' : w.heap.size + 1 + 1 < w1.heap.size := by omega
  clear hb1 ho2 hz hz1
  obtain ⟨q0, q1, q2, q3, q4⟩ := rangeS f0
  go_quiet (fail)
  have f0' : BlkV (w2.drewN nq) w.heap.size 134 (c32 s.l) := f0
  have f2' : BlkV (w2.drewN nq) (w.heap.size + 1 + 1) 134 (c32 [0, 0, 0, 0, 0]) := f2
  have f5' : BlkV (w2.drewN nq) w1.heap.size 149 (c32 W) := hB2
  have fb' : Below w.heap.size w (w2.drewN nq) := fb.trans ⟨rfl, rfl, rfl, Nat.le_refl _, fun _ _ => rfl⟩
  clear f0 f2 hB2 fb q0 q1 q2 q3 q4
  generalize w2.drewN nq = w3 at *
  obtain ⟨g5, hg5⟩ : ∃ g5, g5 = w1.heap.size := ⟨_, rfl⟩
  rw [← hg5] at f5' hz1' ⊢
  clear hg5
  go_wp2
  go_loopw [6, 7, 8, 9, 10, 27] (fun va vb vc vd ve vi wr => ∃ (t : Nat) (r : S5), t ≤ 80 ∧ r.ok ∧ Hid (r = rnds W s t) ∧ va = .int .u32 (r.a : Int) ∧ vb = .int .u32 (r.b : Int) ∧ vc = .int .u32 (r.c : Int) ∧ vd = .int .u32 (r.d : Int) ∧ ve = .int .u32 (r.e : Int) ∧ vi = .int .i64 t ∧
      BlkV wr w.heap.size 134 (c32 s.l) ∧ BlkV wr (w.heap.size + 1 + 1) 134 (c32 [0, 0, 0, 0, 0]) ∧ BlkV wr g5 149 (c32 W) ∧ Below w.heap.size w wr) (fun _ _ _ _ _ i _ => 80 - (intOf i).toNat)
  case atStart => exact ⟨0, s, by omega, hs, Lib.hid rfl, rfl, rfl, rfl, rfl, rfl, rfl, f0', f2', f5', fb'⟩
  case round =>
    obtain ⟨t, r, ht, hro, hr, rfl, rfl, rfl, rfl, rfl, rfl, g0, g2, g5', gb⟩ := hrel
    clear f0' f2' f5' fb'
    by_cases hlt : t < 80
    · obtain ⟨ba, bb, bc, bd, be⟩ := hro
      have hcell := (g5'.cell t).trans (c32_at (by rw [HN.out]; exact hlt))
      have hxl := all_getD HWL.out t
      have hfl := ff_lt t r.b r.c r.d bb bc bd
      have hkl := kk_lt t
      have hrl := rot_lt 5 r.a (by omega) ba
      have hrl2 := rot_lt 30 r.b (by omega) bb
      have hm := fun wx => mix_any t r.b r.c r.d wx hlt bb bc bd
      have hnext : rnds W s (t + 1) = ⟨(rot 5 r.a + ff t r.b r.c r.d + r.e + kk t + W.getD t 0) % 4294967296, r.a, rot 30 r.b, r.c, r.d⟩ := by rw [rnds, ← hr.out]; rfl
      have HNX := Lib.hid hnext
      clear hnext
      obtain ⟨x, hx⟩ : ∃ x, x = W.getD t 0 := ⟨_, rfl⟩
      obtain ⟨F, hF⟩ : ∃ F, F = ff t r.b r.c r.d := ⟨_, rfl⟩
      obtain ⟨K, hK⟩ : ∃ K, K = kk t := ⟨_, rfl⟩
      rw [← hx] at hcell hxl HNX
      rw [← hF] at hfl hm HNX
      rw [← hK] at hkl hm HNX
      clear hx hF hK
      have HM := Lib.hid hm
      clear hm
      have h5 := fun wx => rotl5 r.a wx ba
      have h30 := fun wx => rotl30 r.b wx bb
      obtain ⟨R5, hR5⟩ : ∃ R, R = rot 5 r.a := ⟨_, rfl⟩
      obtain ⟨R30, hR30⟩ : ∃ R, R = rot 30 r.b := ⟨_, rfl⟩
      rw [← hR5] at hrl h5 HNX
      rw [← hR30] at hrl2 h30 HNX
      clear hR5 hR30
      have H5 := Lib.hid h5
      have H30 := Lib.hid h30
      clear h5 h30
      have hti : (t : Int) < 80 := by omega
      go_wp2_with (first
        | (go_at_call 83; ((with_reducible refine (Hid.out HM _).mono ?_); rintro e w' ⟨rfl, rfl⟩)))
      go_quiet (first | (go_at_call 84; exact Calls.quiet_of_same ((Hid.out H5 _).mono fun _ _ ⟨h, h2⟩ => ⟨h, h2.symm⟩)))
      have hsum : (((R5 : Int) + F + r.e + K) % 4294967296 + x) % 4294967296 = (((R5 + F + r.e + K + x) % 4294967296 : Nat) : Int) := by omega
      obtain ⟨X, hX⟩ : ∃ X, X = (R5 + F + r.e + K + x) % 4294967296 := ⟨_, rfl⟩
      rw [← hX] at hsum HNX
      have hXl : X < 4294967296 := by omega
      rw [hsum]
      clear hsum hX
      go_wp2_with (first
        | (go_at_call 84; ((with_reducible refine (Hid.out H30 _).mono ?_); rintro e w' ⟨rfl, rfl⟩)))
      go_roundw
      case rel => exact ⟨t + 1, ⟨X, r.a, R30, r.c, r.d⟩, by omega, ⟨hXl, ba, hrl2, bc, bd⟩, Lib.hid HNX.out.symm, rfl, rfl, rfl, rfl, rfl, by go_num, g0, g2, g5', gb.trans ⟨rfl, rfl, rfl, Nat.le_refl _, fun _ _ => rfl⟩⟩
      case measure => simp [intOf]; omega
    · obtain rfl : t = 80 := by omega
      obtain ⟨q0, q1, q2, q3, q4⟩ := rangeS g0
      go_wp2_with (first
        | (with_reducible refine wpList_st rfl 134 (.tmp 4) (.tmp 77) rfl (w.heap.size + 1 + 1) 0 [.int .u32 (((s.a : Int) + r.a) % 4294967296), .int .u32 (((s.b : Int) + r.b) % 4294967296), .int .u32 (((s.c : Int) + r.c) % 4294967296), .int .u32 (((s.d : Int) + r.d) % 4294967296), .int .u32 (((s.e : Int) + r.e) % 4294967296)] rfl rfl 134 _ g2 (by simp [c32_len]) (row5 (by simp)) (by simp [Value.oneCell']) ?_; intro w4 hB4 ho4))
      rw [splice_all _ _ (by simp [c32_len])] at hB4
      have hB5 : BlkV w4 (w.heap.size + 1 + 1) 134 (c32 (s.plus (rnds W s 80)).l) := by
        rw [← hr.out]
        exact hB4
      exact ret_row (by rfl) (by rfl) hB5 (row5 (by rw [c32_len]; rfl)) (by rfl) ⟨rfl, gb.trans (ho4.below (by omega))⟩
end Go.Proofs.YtmkeioeodlidgaaDoor
