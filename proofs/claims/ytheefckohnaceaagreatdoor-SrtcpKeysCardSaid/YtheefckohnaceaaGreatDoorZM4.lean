/- Several texts in one: plain words and walks. No statement is proved here. -/
import Derived.Test.YtheefckohnaceaaGreatDoorZM3
import Derived.Test.YtheefckohnaceaaGreatDoorZM0
import Derived.BigQuiet
import Derived.Deep.RegionHeld3
import Derived.Deep.DrawnRows
import Derived.IntWalk
import Derived.StillTailTactics
namespace Go.Proofs.YtheefckohnaceaaGreatDoor
open Go.RowKit
set_option linter.unusedVariables false

theorem row20_ : RowTy Tryz.prog 40 20 := ⟨_, Tryz.underlying40, rfl, by kernel_rfl⟩
theorem row20 {n : Nat} (h : n = 20) : RowTy Tryz.prog 40 n := h ▸ row20_
theorem row5_ : RowTy Tryz.prog 174 5 := ⟨_, Tryz.underlying174, rfl, by kernel_rfl⟩
theorem row5 {n : Nat} (h : n = 5) : RowTy Tryz.prog 174 n := h ▸ row5_
theorem row64_ : RowTy Tryz.prog 141 64 := ⟨_, Tryz.underlying141, rfl, by kernel_rfl⟩
theorem row64 {n : Nat} (h : n = 64) : RowTy Tryz.prog 141 n := h ▸ row64_
theorem row80_ : RowTy Tryz.prog 204 80 := ⟨_, Tryz.underlying204, rfl, by kernel_rfl⟩
theorem row80 {n : Nat} (h : n = 80) : RowTy Tryz.prog 204 n := h ▸ row80_
theorem row70_ : RowTy Tryz.prog 176 70 := ⟨_, Tryz.underlying176, rfl, by kernel_rfl⟩
theorem row70 {n : Nat} (h : n = 70) : RowTy Tryz.prog 176 n := h ▸ row70_

def c32 (l : List Nat) : List Value := l.map fun (x : Nat) => Value.int .u32 (x : Int)
theorem c32_at {l : List Nat} {j : Nat} (h : j < l.length) : (c32 l)[j]? = some (.int .u32 ((l.getD j 0 : Nat) : Int)) := by
 simp [c32, List.getD, h]
theorem c32_len (l : List Nat) : (c32 l).length = l.length := by simp [c32]
def S5.val (s : S5) : Value := .agg #[.int .u32 (s.a : Int), .int .u32 (s.b : Int), .int .u32 (s.c : Int), .int .u32 (s.d : Int), .int .u32 (s.e : Int)]

theorem told_step (s : S5) (k : Nat) (hk : k < 20) : (toldN s k ++ List.replicate (20 - k) 0).set k (toldB s k) = toldN s (k + 1) ++ List.replicate (20 - (k + 1)) 0 := by
 rw [List.set_append_right _ _ (by rw [toldN_len]; omega), toldN_len, Nat.sub_self, show 20 - k = (20 - (k + 1)) + 1 by omega, List.replicate_succ, List.set_cons_zero, toldN_succ, List.append_assoc]
 rfl
theorem u8_of (x : Nat) : ((UInt8.ofNat x).toNat : Int) = (x : Int) % 256 := by rw [UInt8.toNat_ofNat']; omega
theorem S5.cell_at {w : World} {g : Nat} {e : TypeId} {s : S5} (h : BlkV w g e (c32 s.l)) (j : Nat) (hj : j < 5) : w.cell? ⟨g, j, none⟩ = some (.int .u32 ((s.l.getD j 0 : Nat) : Int)) := by
 rw [h.cell, c32_at (by simpa [S5.l] using hj)]

set_option maxHeartbeats 1000000 in
theorem told_any (s : S5) (w : World) (hs : s.ok) :
 Calls Tryz.prog 110 #[s.val] w fun e w' => e = .returned (.agg (cells (toldN s 20)).toArray) ∧ Below w.heap.size w w' := by
 unfold S5.val
 go_enter Tryz.func110, Tryz.ntmps110
 go_wp2
 go_loopw [5] (fun i wr => ∃ k : Nat, k ≤ 20 ∧ i = .int .i64 k ∧ BlkV wr w.heap.size 174 (c32 s.l) ∧ Blk wr (w.heap.size + 1) 40 (List.replicate 20 0) ∧ Blk wr (w.heap.size + 1 + 1) 40 (toldN s k ++ List.replicate (20 - k) 0) ∧ Below w.heap.size w wr) (fun i _ => 20 - (intOf i).toNat)
 case atStart =>
  refine ⟨0, by omega, rfl, ?_, ?_, ?_, ?_⟩
  · exact ((BlkV.new _ _ (c32 s.l)).alloc _).alloc _
  · exact (Blk.new_at _ _ _ (List.replicate 20 0) _ (by simp) rfl).alloc _
  · exact Blk.new_at _ _ _ (List.replicate 20 0) _ (by simp) rfl
  · exact (((Below.refl _ _).alloc (Nat.le_refl _) _).alloc (by simp) _).alloc (by simp; omega) _
 case round =>
  obtain ⟨k, hk, rfl, h1, h2, h3, hb⟩ := hrel
  by_cases hlt : k < 20
  · have hcell := S5.cell_at h1 (k / 4) (by omega)
    have hcell3 := h3.cell (j := k) (by rw [List.length_append, toldN_len, List.length_replicate]; omega)
    have hfr := h3.frozen k
    have hx := all_getD (S5.l_lt hs) (k / 4)
    obtain ⟨x, hxx⟩ : ∃ x, x = s.l.getD (k / 4) 0 := ⟨_, rfl⟩
    rw [← hxx] at hcell hx
    obtain ⟨y, hy⟩ : ∃ y : Value, y = (.int .u8 (((toldN s k ++ List.replicate (20 - k) 0).getD k 0).toNat : Int)) := ⟨_, rfl⟩
    rw [← hy] at hcell3
    clear hy
    have HX := Lib.hid hxx
    clear hxx
    have e1 : Value.int IntKind.u8 ((x : Int) / 2 ^ (24 - 8 * (k % 4)) % 256) = .int .u8 ((toldB s k).toNat : Int) := by
     unfold toldB
     rw [u8_of, ← HX.out]
     simp
    have hs3 := h3.set_ k (toldB s k)
    rw [told_step s k hlt, ← e1] at hs3
    have hs1 := h1.far (p := ⟨w.heap.size + 1 + 1, k, none⟩) (by simp; omega) (Value.int IntKind.u8 ((x : Int) / 2 ^ (24 - 8 * (k % 4)) % 256))
    have hs2 := h2.far (p := ⟨w.heap.size + 1 + 1, k, none⟩) (by simp) (Value.int IntKind.u8 ((x : Int) / 2 ^ (24 - 8 * (k % 4)) % 256))
    have hbs := hb.setCell (p := ⟨w.heap.size + 1 + 1, k, none⟩) (by simp; omega) (Value.int IntKind.u8 ((x : Int) / 2 ^ (24 - 8 * (k % 4)) % 256))
    clear e1
    go_wp2
    go_roundw
    case rel => exact ⟨k + 1, by omega, by go_num, hs1, hs2, hs3, hbs⟩
    case measure => simp [intOf]; omega
  · obtain rfl : k = 20 := by omega
    have h3' : Blk wr (w.heap.size + 1 + 1) 40 (toldN s 20) := by simpa using h3
    clear h3
    go_wp2_with (first
     | (with_reducible refine wpList_ld rfl 40 (.tmp 3) rfl (w.heap.size + 1 + 1) 0 rfl (cells (toldN s 20)) (h3'.v.range 0 _ (by simp)) (row20 (by rw [length_cells, toldN_len])) ?_)
     | (with_reducible refine wpList_st rfl 40 (.tmp 2) (.tmp 21) rfl (w.heap.size + 1) 0 (cells (toldN s 20)) rfl rfl 40 _ h2.v (by simp [length_cells, toldN_len]) (row20 (by rw [length_cells, toldN_len])) (cells_one _) ?_; intro w2 hB2 ho2))
    rw [splice_all _ _ (by simp [length_cells, toldN_len])] at hB2
    exact ret_row (by rfl) (by rfl) hB2 (row20 (by rw [length_cells, toldN_len])) (by rfl) ⟨rfl, hb.trans (ho2.below (by omega))⟩

def wrow (b : List UInt8) (k : Nat) : List Value := c32 (wds b k ++ List.replicate (80 - k) 0)
set_option maxRecDepth 100000 in
theorem wrow_len (b : List UInt8) (k : Nat) (h : k ≤ 80) : (wrow b k).length = 80 := by simp [wrow, c32_len, wds_len]; omega
set_option maxRecDepth 100000 in
theorem wrow_step (b : List UInt8) (k x : Nat) (h : k < 80) (hx : wds b (k + 1) = wds b k ++ [x]) : (wrow b k).set k (.int .u32 (x : Int)) = wrow b (k + 1) := by
 unfold wrow c32
 rw [← List.map_set, List.set_append_right _ _ (by rw [wds_len]; omega), wds_len, Nat.sub_self, show 80 - k = (80 - (k + 1)) + 1 by omega, List.replicate_succ, List.set_cons_zero, hx, List.append_assoc]
 rfl
set_option maxRecDepth 100000 in
theorem wrow_at (b : List UInt8) (k j : Nat) (h : j < k) (hk : k ≤ 80) : (wrow b k)[j]? = some (.int .u32 (((wds b k).getD j 0 : Nat) : Int)) := by
 unfold wrow
 rw [c32_at (by simp [wds_len]; omega)]
 simp [List.getD, List.getElem?_append, wds_len, h]
set_option maxRecDepth 100000 in
theorem wrow_is (b : List UInt8) (k j : Nat) (hk : k ≤ 80) (hj : j < 80) : ∃ v, (wrow b k)[j]? = some v := ⟨_, List.getElem?_eq_getElem (by rw [wrow_len b k hk]; exact hj)⟩

set_option maxRecDepth 100000 in
theorem zero80 (w : World) : (zeroValue 204).run Tryz.prog w = .ok (.agg (c32 (List.replicate 80 0)).toArray) w := by kernel_rfl
set_option maxRecDepth 100000 in
theorem c32_one (l : List Nat) : ∀ u ∈ c32 l, u.oneCell' = true := by
 intro u hu
 obtain ⟨_, _, rfl⟩ := List.mem_map.1 hu
 rfl
set_option maxRecDepth 100000 in
theorem wdx (b : List UInt8) (k : Nat) (h : 16 ≤ k) :
 bits BinOp.xor IntKind.u32 (bits BinOp.xor IntKind.u32 (bits BinOp.xor IntKind.u32 (((wds b k).getD (k - 3) 0 : Nat) : Int) (((wds b k).getD (k - 8) 0 : Nat) : Int)) (((wds b k).getD (k - 14) 0 : Nat) : Int)) (((wds b k).getD (k - 16) 0 : Nat) : Int) =
 (((wds b k).getD (k - 16 + 13) 0 ^^^ (wds b k).getD (k - 16 + 8) 0 ^^^ (wds b k).getD (k - 16 + 2) 0 ^^^ (wds b k).getD (k - 16) 0 : Nat) : Int) := by
 have hw := wds_lt b k
 rw [u32_xor_nat _ _ (all_getD hw _) (all_getD hw _), u32_xor_nat _ _ (xor32 (all_getD hw _) (all_getD hw _)) (all_getD hw _), u32_xor_nat _ _ (xor32 (xor32 (all_getD hw _) (all_getD hw _)) (all_getD hw _)) (all_getD hw _),
  show k - 16 + 13 = k - 3 by omega, show k - 16 + 8 = k - 8 by omega, show k - 16 + 2 = k - 14 by omega]

set_option maxRecDepth 100000 in
set_option maxHeartbeats 1000000 in
theorem schedule_any (b : List UInt8) (w : World) (hl : b.length = 64) :
 Calls Tryz.prog 131 #[.agg (cells b).toArray] w fun e w' => e = .returned (.agg (c32 (wds b 80)).toArray) ∧ Below w.heap.size w w' := by
 have hz := zero80
 go_enter Tryz.func131, Tryz.ntmps131
 go_wp2
 have hr0 : Blk (((w.alloc (Obj.cells (cells b).toArray 141)).alloc (Obj.cells (c32 (List.replicate 80 0)).toArray 204)).alloc (Obj.cells (c32 (List.replicate 80 0)).toArray 204)) w.heap.size 141 b := ((Blk.new _ _ b).alloc _).alloc _
 have hr1 : BlkV (((w.alloc (Obj.cells (cells b).toArray 141)).alloc (Obj.cells (c32 (List.replicate 80 0)).toArray 204)).alloc (Obj.cells (c32 (List.replicate 80 0)).toArray 204)) (w.heap.size + 1) 204 (c32 (List.replicate 80 0)) := (BlkV.new_at _ _ _ _ _ (by simp) rfl).alloc _
 have hr2 : BlkV (((w.alloc (Obj.cells (cells b).toArray 141)).alloc (Obj.cells (c32 (List.replicate 80 0)).toArray 204)).alloc (Obj.cells (c32 (List.replicate 80 0)).toArray 204)) (w.heap.size + 1 + 1) 204 (wrow b 0) := BlkV.new_at _ _ _ _ _ (by simp) rfl
 have hb0 : Below w.heap.size w (((w.alloc (Obj.cells (cells b).toArray 141)).alloc (Obj.cells (c32 (List.replicate 80 0)).toArray 204)).alloc (Obj.cells (c32 (List.replicate 80 0)).toArray 204)) := (((Below.refl _ _).alloc (Nat.le_refl _) _).alloc (by simp) _).alloc (by simp; omega) _
 clear hz
 go_loopw [8] (fun i wr => ∃ k : Nat, k ≤ 16 ∧ i = .int .i64 k ∧ Blk wr w.heap.size 141 b ∧ BlkV wr (w.heap.size + 1) 204 (c32 (List.replicate 80 0)) ∧ BlkV wr (w.heap.size + 1 + 1) 204 (wrow b k) ∧ Below w.heap.size w wr) (fun i _ => 16 - (intOf i).toNat)
 case atStart => exact ⟨0, by omega, rfl, hr0, hr1, hr2, hb0⟩
 case round =>
  obtain ⟨k, hk, rfl, h1, h2, h3, hb⟩ := hrel
  by_cases hlt : k < 16
  · have hrd := h1.rd (n := 64) (c := 64) hl (Nat.le_refl _) (by simp [maxLen])
    obtain ⟨v, hv⟩ := wrow_is b k k (by omega) (by omega)
    have hc3 := (h3.cell k).trans hv
    have hf3 := h3.frozen k
    have hwl := word_lt b k
    have hnum : Calls Tryz.prog 56 #[.slice (some ⟨w.heap.size, 0, none⟩) 64 64, .int .i64 (4 * (k : Int)), .int .i64 4] wr fun e w' => e = .returned (.tuple #[.int .u64 ((word b k : Nat) : Int), .bool true]) ∧ wr = w' :=
     num_yes _ _ _ b (4 * k) 4 wr hrd (by omega) (by omega) (by omega)
    have hst := wrow_step b k (word b k) (by omega) (wds_low b k hlt)
    have hs3 := h3.set_ k (.int .u32 ((word b k : Nat) : Int))
    rw [hst] at hs3
    have hs1 := h1.far (p := ⟨w.heap.size + 1 + 1, k, none⟩) (by simp; omega) (.int .u32 ((word b k : Nat) : Int))
    have hs2 := h2.far (p := ⟨w.heap.size + 1 + 1, k, none⟩) (by simp) (.int .u32 ((word b k : Nat) : Int))
    have hbs := hb.setCell (p := ⟨w.heap.size + 1 + 1, k, none⟩) (by simp; omega) (.int .u32 ((word b k : Nat) : Int))
    obtain ⟨x, hx⟩ : ∃ x, x = word b k := ⟨_, rfl⟩
    rw [← hx] at hwl hnum hst hs3 hs1 hs2 hbs
    clear hx hst hr0 hr1 hr2 hb0 hl
    have HN := Lib.hid hnum
    clear hnum hv
    go_wp2_with (first | (go_at_call 56; ((with_reducible refine (Hid.out HN).mono ?_); rintro e w' ⟨rfl, rfl⟩)))
    go_roundw
    case rel => exact ⟨k + 1, by omega, by go_num, hs1, hs2, hs3, hbs⟩
    case measure => simp [intOf]; omega
  · obtain rfl : k = 16 := by omega
    clear hr0 hr1 hr2 hb0
    go_wp2
    simp only [Int.cast_ofNat_Int]
    go_loopw [7] (fun i wx => ∃ k : Nat, 16 ≤ k ∧ k ≤ 80 ∧ i = .int .i64 k ∧ BlkV wx (w.heap.size + 1) 204 (c32 (List.replicate 80 0)) ∧ BlkV wx (w.heap.size + 1 + 1) 204 (wrow b k) ∧ Below w.heap.size w wx) (fun i _ => 80 - (intOf i).toNat)
    case atStart => exact ⟨16, by omega, by omega, rfl, h2, h3, hb⟩
    case round =>
     obtain ⟨k, hk0, hk, rfl, g2, g3, gb⟩ := hrel
     by_cases hlt : k < 80
     · have hx := wdx b k hk0
       obtain ⟨x, hxx⟩ : ∃ x, x = (((wds b k).getD (k - 16 + 13) 0 ^^^ (wds b k).getD (k - 16 + 8) 0 ^^^ (wds b k).getD (k - 16 + 2) 0 ^^^ (wds b k).getD (k - 16) 0 : Nat)) := ⟨_, rfl⟩
       have hxl := nextX_lt (wds_lt b k) (k - 16)
       have hst := wrow_step b k (rot 1 x) (by omega) (by rw [wds_high b k hk0, nextW, hxx])
       rw [← hxx] at hx hxl
       obtain ⟨v, hv⟩ := wrow_is b k k (by omega) (by omega)
       have hc := (g3.cell k).trans hv
       have hf := g3.frozen k
       have c1 := (g3.cell (k - 3)).trans (wrow_at b k (k - 3) (by omega) (by omega))
       have c2 := (g3.cell (k - 8)).trans (wrow_at b k (k - 8) (by omega) (by omega))
       have c3 := (g3.cell (k - 14)).trans (wrow_at b k (k - 14) (by omega) (by omega))
       have c4 := (g3.cell (k - 16)).trans (wrow_at b k (k - 16) (by omega) (by omega))
       have hs3 := g3.set_ k (.int .u32 ((rot 1 x : Nat) : Int))
       rw [hst] at hs3
       have hs2 := g2.far (p := ⟨w.heap.size + 1 + 1, k, none⟩) (by simp) (.int .u32 ((rot 1 x : Nat) : Int))
       have hbs := gb.setCell (p := ⟨w.heap.size + 1 + 1, k, none⟩) (by simp; omega) (.int .u32 ((rot 1 x : Nat) : Int))
       obtain ⟨y1, hy1⟩ : ∃ y : Nat, y = (wds b k).getD (k - 3) 0 := ⟨_, rfl⟩
       obtain ⟨y2, hy2⟩ : ∃ y : Nat, y = (wds b k).getD (k - 8) 0 := ⟨_, rfl⟩
       obtain ⟨y3, hy3⟩ : ∃ y : Nat, y = (wds b k).getD (k - 14) 0 := ⟨_, rfl⟩
       obtain ⟨y4, hy4⟩ : ∃ y : Nat, y = (wds b k).getD (k - 16) 0 := ⟨_, rfl⟩
       rw [← hy1] at c1 hx
       rw [← hy2] at c2 hx
       rw [← hy3] at c3 hx
       rw [← hy4] at c4 hx
       clear hst hxx hv hy1 hy2 hy3 hy4 h1 h2 h3 hb hl
       have hlt' : (k : Int) < 80 := by omega
       have b1 : (16 : Int) ≤ (k : Int) := by omega
       go_wp2
       have s3 : IntKind.i64.wrap ((k : Int) - 3) = (k : Int) - 3 := IntWalk.i64_in _ (by omega)
       have p3 : 0 ≤ (k : Int) - 3 := by omega
       have t3 : 3 ≤ (k : Int) := by omega
       have q3 : (k : Int) - 3 < 80 := by omega
       have r3 : ((k : Int) - 3).toNat = k - 3 := by omega
       have s8 : IntKind.i64.wrap ((k : Int) - 8) = (k : Int) - 8 := IntWalk.i64_in _ (by omega)
       have p8 : 0 ≤ (k : Int) - 8 := by omega
       have t8 : 8 ≤ (k : Int) := by omega
       have q8 : (k : Int) - 8 < 80 := by omega
       have r8 : ((k : Int) - 8).toNat = k - 8 := by omega
       have s14 : IntKind.i64.wrap ((k : Int) - 14) = (k : Int) - 14 := IntWalk.i64_in _ (by omega)
       have p14 : 0 ≤ (k : Int) - 14 := by omega
       have t14 : 14 ≤ (k : Int) := by omega
       have q14 : (k : Int) - 14 < 80 := by omega
       have r14 : ((k : Int) - 14).toNat = k - 14 := by omega
       have s16 : IntKind.i64.wrap ((k : Int) - 16) = (k : Int) - 16 := IntWalk.i64_in _ (by omega)
       have p16 : 0 ≤ (k : Int) - 16 := by omega
       have t16 : 16 ≤ (k : Int) := by omega
       have q16 : (k : Int) - 16 < 80 := by omega
       have r16 : ((k : Int) - 16).toNat = k - 16 := by omega
       go_still_tail 21, (by kernel_rfl)
       still_call ((rotl1 x _ hxl).mono fun _ _ ⟨h, h2⟩ => ⟨h, h2.symm⟩)
       refine wpStill_nil ?_
       change wpList _ _ _ _ _ wr.drew
       clear s3 s8 s14 s16 p3 p8 p14 p16 q3 q8 q14 q16 r3 r8 r14 r16 t3 t8 t14 t16 c1 c2 c3 c4 hx
       go_wp2
       go_roundw
       case rel => exact ⟨k + 1, by omega, by omega, by go_num, hs2, hs3, hbs.drew⟩
       case measure => simp [intOf]; omega
     · obtain rfl : k = 80 := by omega
       have e80 : wrow b 80 = c32 (wds b 80) := by simp [wrow]
       rw [e80] at g3
       have hl80 : (c32 (wds b 80)).length = 80 := by rw [c32_len, wds_len]
       have HL := Lib.hid hl80
       have HE := Lib.hid e80
       clear hl80 e80
       go_wp2_with (first
        | (with_reducible refine wpList_ld rfl 204 (.tmp 3) rfl (w.heap.size + 1 + 1) 0 rfl (c32 (wds b 80)) (g3.range 0 _ (by simp)) (row80 HL.out) ?_)
        | (with_reducible refine wpList_st rfl 204 (.tmp 2) (.tmp 49) rfl (w.heap.size + 1) 0 (c32 (wds b 80)) rfl rfl 204 _ g2 (by rw [HL.out]; simp [c32_len]) (row80 HL.out) (c32_one _) ?_; intro w2 hB2 ho2))
       rw [splice_all _ _ (by rw [HL.out]; simp [c32_len])] at hB2
       exact ret_row (by rfl) (by rfl) hB2 (row80 HL.out) (by rfl) ⟨rfl, gb.trans (ho2.below (by omega))⟩

theorem rangeS {s : S5} {w : World} {g : Nat} {e : TypeId} (h : BlkV w g e (c32 s.l)) : w.cell? ⟨g, 0, none⟩ = some (.int .u32 (s.a : Int)) ∧ w.cell? ⟨g, 1, none⟩ = some (.int .u32 (s.b : Int)) ∧ w.cell? ⟨g, 2, none⟩ = some (.int .u32 (s.c : Int)) ∧ w.cell? ⟨g, 3, none⟩ = some (.int .u32 (s.d : Int)) ∧ w.cell? ⟨g, 4, none⟩ = some (.int .u32 (s.e : Int)) :=
 ⟨(h.cell 0).trans rfl, (h.cell 1).trans rfl, (h.cell 2).trans rfl, (h.cell 3).trans rfl, (h.cell 4).trans rfl⟩

theorem told_arr (s : S5) (w : World) (hs : s.ok) :
 Calls Tryz.prog 110 #[.agg (c32 s.l).toArray] w fun e w' => e = .returned (.agg (cells (toldN s 20)).toArray) ∧ Below w.heap.size w w' := told_any s w hs

set_option maxRecDepth 100000 in
set_option maxHeartbeats 1000000 in
theorem withBlock_any (s : S5) (b : List UInt8) (w : World) (hs : s.ok) (hl : b.length = 64) :
 Calls Tryz.prog 108 #[.agg (c32 s.l).toArray, .agg (cells b).toArray] w fun e w' => e = .returned (.agg (c32 (blockW s b).l).toArray) ∧ Below w.heap.size w w' := by
 have hz := zero80
 have k1 : ∀ C : Array Value, BlkV (((w.alloc (Obj.cells (c32 s.l).toArray 174)).alloc (Obj.cells (cells b).toArray 141)).alloc (Obj.cells C 174)) (w.heap.size + 1) 141 (cells b) := fun C => (BlkV.new_at _ _ _ _ _ (by simp) rfl).alloc _
 have k0 : ∀ C : Array Value, BlkV (((w.alloc (Obj.cells (c32 s.l).toArray 174)).alloc (Obj.cells (cells b).toArray 141)).alloc (Obj.cells C 174)) w.heap.size 174 (c32 s.l) := fun C => ((BlkV.new _ _ _).alloc _).alloc _
 have k2 : BlkV (((w.alloc (Obj.cells (c32 s.l).toArray 174)).alloc (Obj.cells (cells b).toArray 141)).alloc (Obj.cells #[.int .u32 0, .int .u32 0, .int .u32 0, .int .u32 0, .int .u32 0] 174)) (w.heap.size + 1 + 1) 174 (c32 [0, 0, 0, 0, 0]) := BlkV.new_at _ _ _ _ _ (by simp) rfl
 have hb0 : ∀ C : Array Value, Below w.heap.size w (((w.alloc (Obj.cells (c32 s.l).toArray 174)).alloc (Obj.cells (cells b).toArray 141)).alloc (Obj.cells C 174)) := fun C => (((Below.refl _ _).alloc (Nat.le_refl _) _).alloc (by simp) _).alloc (by simp; omega) _
 have K1 := Lib.hid k1
 have K0 := Lib.hid k0
 have K2 := Lib.hid k2
 have HB0 := Lib.hid hb0
 have HL := Lib.hid hl
 clear k1 k0 k2 hb0 hl
 have hwl := wds_lt b 80
 have hwn := wds_len b 80
 have hsc := fun w => schedule_any b w HL.out
 have hbk : blockW s b = s.plus (rnds (wds b 80) s 80) := rfl
 rw [hbk]
 clear hbk
 obtain ⟨W, hW⟩ : ∃ W, W = wds b 80 := ⟨_, rfl⟩
 rw [← hW] at hwl hwn hsc ⊢
 clear hW
 have HC := Lib.hid hsc
 have HN := Lib.hid hwn
 have HWL := Lib.hid hwl
 clear hsc hwl hwn
 go_enter Tryz.func108, Tryz.ntmps108
 go_wp2_with (first
  | (with_reducible refine wpList_ld rfl 141 (.tmp 3) rfl (w.heap.size + 1) 0 rfl (cells b) ((Hid.out K1 _).range 0 _ (by simp)) (row64 (by rw [length_cells]; exact HL.out)) ?_)
  | (go_at_call 131; ((with_reducible refine (Hid.out HC _).mono ?_); rintro e w1 ⟨rfl, hb1⟩))
  | (with_reducible refine wpList_st rfl 204 (.tmp 5) (.tmp 16) rfl w1.heap.size 0 (c32 W) rfl rfl 204 (c32 (List.replicate 80 0)) (BlkV.new _ _ _) (by rw [c32_len, HN.out, c32_len]; simp) (row80 (by rw [c32_len]; exact HN.out)) (c32_one _) ?_; intro w2 hB2 ho2))
 have hz1 := hb1.size
 simp only [World.size_alloc] at hz1
 have f0 := ((K0.out _).below hb1 (by simp; omega)).alloc (.cells (c32 (List.replicate 80 0)).toArray 204) |>.only ho2 (by omega)
 have f2 := ((K2.out).below hb1 (by simp)).alloc (.cells (c32 (List.replicate 80 0)).toArray 204) |>.only ho2 (by omega)
 have fb := (((HB0.out _).trans (hb1.mono (by simp; omega))).alloc (by omega) (.cells (c32 (List.replicate 80 0)).toArray 204)).trans (ho2.below (B := w.heap.size) (by omega))
 rw [splice_all _ _ (by rw [c32_len, c32_len, HN.out]; simp)] at hB2
 have hz1' : w.heap.size + 1 + 1 < w1.heap.size := by omega
 clear hb1 ho2 hz hz1
 obtain ⟨q0, q1, q2, q3, q4⟩ := rangeS f0
 go_quiet (fail)
 have f0' : BlkV (w2.drewN nq) w.heap.size 174 (c32 s.l) := f0
 have f2' : BlkV (w2.drewN nq) (w.heap.size + 1 + 1) 174 (c32 [0, 0, 0, 0, 0]) := f2
 have f5' : BlkV (w2.drewN nq) w1.heap.size 204 (c32 W) := hB2
 have fb' : Below w.heap.size w (w2.drewN nq) := fb.trans ⟨rfl, rfl, rfl, Nat.le_refl _, fun _ _ => rfl⟩
 clear f0 f2 hB2 fb q0 q1 q2 q3 q4
 generalize w2.drewN nq = w3 at *
 obtain ⟨g5, hg5⟩ : ∃ g5, g5 = w1.heap.size := ⟨_, rfl⟩
 rw [← hg5] at f5' hz1' ⊢
 clear hg5
 go_wp2
 go_loopw [6, 7, 8, 9, 10, 27] (fun va vb vc vd ve vi wr => ∃ (t : Nat) (r : S5), t ≤ 80 ∧ r.ok ∧ Hid (r = rnds W s t) ∧ va = .int .u32 (r.a : Int) ∧ vb = .int .u32 (r.b : Int) ∧ vc = .int .u32 (r.c : Int) ∧ vd = .int .u32 (r.d : Int) ∧ ve = .int .u32 (r.e : Int) ∧ vi = .int .i64 t ∧
  BlkV wr w.heap.size 174 (c32 s.l) ∧ BlkV wr (w.heap.size + 1 + 1) 174 (c32 [0, 0, 0, 0, 0]) ∧ BlkV wr g5 204 (c32 W) ∧ Below w.heap.size w wr) (fun _ _ _ _ _ i _ => 80 - (intOf i).toNat)
 case atStart => exact ⟨0, s, by omega, hs, Lib.hid rfl, rfl, rfl, rfl, rfl, rfl, rfl, f0', f2', f5', fb'⟩
 case round =>
  obtain ⟨t, r, ht, hro, hr, rfl, rfl, rfl, rfl, rfl, rfl, g0, g2, g5', gb⟩ := hrel
  clear f0' f2' f5' fb'
  by_cases hlt : t < 80
  · obtain ⟨ba, bb, bc, bd, be⟩ := hro
    have hcell := (g5'.cell t).trans (c32_at (by rw [HN.out]; exact hlt))
    have hxl := all_getD HWL.out t
    have hfl := ff_lt t r.b r.c r.d bb bc bd
    have hkl := kk_lt t
    have hrl := rot_lt 5 r.a (by omega) ba
    have hrl2 := rot_lt 30 r.b (by omega) bb
    have hm := fun wx => mix_any t r.b r.c r.d wx hlt bb bc bd
    have hnext : rnds W s (t + 1) = ⟨(rot 5 r.a + ff t r.b r.c r.d + r.e + kk t + W.getD t 0) % 4294967296, r.a, rot 30 r.b, r.c, r.d⟩ := by rw [rnds, ← hr.out]; rfl
    have HNX := Lib.hid hnext
    clear hnext
    obtain ⟨x, hx⟩ : ∃ x, x = W.getD t 0 := ⟨_, rfl⟩
    obtain ⟨F, hF⟩ : ∃ F, F = ff t r.b r.c r.d := ⟨_, rfl⟩
    obtain ⟨K, hK⟩ : ∃ K, K = kk t := ⟨_, rfl⟩
    rw [← hx] at hcell hxl HNX
    rw [← hF] at hfl hm HNX
    rw [← hK] at hkl hm HNX
    clear hx hF hK
    have HM := Lib.hid hm
    clear hm
    have h5 := fun wx => rotl5 r.a wx ba
    have h30 := fun wx => rotl30 r.b wx bb
    obtain ⟨R5, hR5⟩ : ∃ R, R = rot 5 r.a := ⟨_, rfl⟩
    obtain ⟨R30, hR30⟩ : ∃ R, R = rot 30 r.b := ⟨_, rfl⟩
    rw [← hR5] at hrl h5 HNX
    rw [← hR30] at hrl2 h30 HNX
    clear hR5 hR30
    have H5 := Lib.hid h5
    have H30 := Lib.hid h30
    clear h5 h30
    have hti : (t : Int) < 80 := by omega
    go_wp2_with (first
     | (go_at_call 132; ((with_reducible refine (Hid.out HM _).mono ?_); rintro e w' ⟨rfl, rfl⟩)))
    go_quiet (first | (go_at_call 133; exact Calls.quiet_of_same ((Hid.out H5 _).mono fun _ _ ⟨h, h2⟩ => ⟨h, h2.symm⟩)))
    have hsum : (((R5 : Int) + F + r.e + K) % 4294967296 + x) % 4294967296 = (((R5 + F + r.e + K + x) % 4294967296 : Nat) : Int) := by omega
    obtain ⟨X, hX⟩ : ∃ X, X = (R5 + F + r.e + K + x) % 4294967296 := ⟨_, rfl⟩
    rw [← hX] at hsum HNX
    have hXl : X < 4294967296 := by omega
    rw [hsum]
    clear hsum hX
    go_wp2_with (first
     | (go_at_call 133; ((with_reducible refine (Hid.out H30 _).mono ?_); rintro e w' ⟨rfl, rfl⟩)))
    go_roundw
    case rel => exact ⟨t + 1, ⟨X, r.a, R30, r.c, r.d⟩, by omega, ⟨hXl, ba, hrl2, bc, bd⟩, Lib.hid HNX.out.symm, rfl, rfl, rfl, rfl, rfl, by go_num, g0, g2, g5', gb.trans ⟨rfl, rfl, rfl, Nat.le_refl _, fun _ _ => rfl⟩⟩
    case measure => simp [intOf]; omega
  · obtain rfl : t = 80 := by omega
    obtain ⟨q0, q1, q2, q3, q4⟩ := rangeS g0
    go_wp2_with (first
     | (with_reducible refine wpList_st rfl 174 (.tmp 4) (.tmp 77) rfl (w.heap.size + 1 + 1) 0 [.int .u32 (((s.a : Int) + r.a) % 4294967296), .int .u32 (((s.b : Int) + r.b) % 4294967296), .int .u32 (((s.c : Int) + r.c) % 4294967296), .int .u32 (((s.d : Int) + r.d) % 4294967296), .int .u32 (((s.e : Int) + r.e) % 4294967296)] rfl rfl 174 _ g2 (by simp [c32_len]) (row5 (by simp)) (by simp [Value.oneCell']) ?_; intro w4 hB4 ho4))
    rw [splice_all _ _ (by simp [c32_len])] at hB4
    have hB5 : BlkV w4 (w.heap.size + 1 + 1) 174 (c32 (s.plus (rnds W s 80)).l) := by
     rw [← hr.out]
     exact hB4
    exact ret_row (by rfl) (by rfl) hB5 (row5 (by rw [c32_len]; rfl)) (by rfl) ⟨rfl, gb.trans (ho4.below (by omega))⟩
set_option maxHeartbeats 1000000 in
theorem closing_any (n : Nat) (w : World) (hn : n ≤ 1000000) :
 Calls Tryz.prog 109 #[.int .i64 n] w fun e w' => ∃ g, e = .returned (.slice (some ⟨g, 0, none⟩) (padBH n).length (padBH n).length) ∧ w.heap.size ≤ g ∧ Blk w' g 5 (padBH n) ∧ Below w.heap.size w w' := by
 obtain ⟨q, hq⟩ : ∃ q, q = n % 64 := ⟨_, rfl⟩
 obtain ⟨z, hz⟩ : ∃ z, z = zeros n := ⟨_, rfl⟩
 have e1 : ((n : Int) % 64) = (q : Int) := by omega
 have e2 : (119 - (q : Int)) % 64 = (z : Int) := by unfold zeros at hz; omega
 have hql : (q : Int) ≤ 63 := by omega
 have hzl : (z : Int) ≤ 63 := by unfold zeros at hz; omega
 have hzn : z ≤ 63 := by omega
 have hmk := run_makeB (P := Tryz.prog) Tryz.underlying32 u8_info .i64 .i64 (1 + (z : Int)) (1 + (z : Int)) (1 + z) (by omega) (by omega) (by omega)
 have er : List.replicate (1 + z) (0 : UInt8) = 0 :: List.replicate z 0 := by rw [Nat.add_comm, List.replicate_succ]
 have b1 := Blk.new w 5 (List.replicate (1 + z) 0)
 have hc0 := b1.cell (j := 0) (by simp; omega)
 have hf0 := b1.frozen 0
 have b2 : Blk (w.alloc (.cells ((cells (List.replicate (1 + z) 0)).set 0 (.int .u8 128)).toArray 5)) w.heap.size 5 (128 :: List.replicate z 0) := Blk.new_at _ _ _ _ _ rfl (by
  have e := cells_set (List.replicate (1 + z) 0) 0 128
  rw [er] at e ⊢
  exact congrArg List.toArray e)
 have hbel : Below w.heap.size w (w.alloc (.cells ((cells (List.replicate (1 + z) 0)).set 0 (.int .u8 128)).toArray 5)) := (Below.refl _ _).alloc (Nat.le_refl _) _
 have hrd := b2.rd (n := 1 + z) (c := 1 + z) (by simp; omega) (Nat.le_refl _) (by simp [maxLen]; omega)
 have hput : Calls Tryz.prog 35 #[.slice (some ⟨w.heap.size, 0, none⟩) (1 + z) (1 + z), .int .i64 8, .int .u64 ((n : Int) * 8)] (w.alloc (.cells ((cells (List.replicate (1 + z) 0)).set 0 (.int .u8 128)).toArray 5)) fun e w' => ∃ g, e = .returned (.slice (some ⟨g, 0, none⟩) (1 + z + 8) (1 + z + 8)) ∧ w.heap.size ≤ g ∧ Blk w' g 5 (padBH n) ∧ Below w.heap.size w w' := by
  refine (put_some _ _ _ _ 8 (n * 8) _ hrd (by omega) (by omega) (by omega) (by omega)).mono fun e w' ⟨he, hB, hb⟩ => ⟨_, he, ?_, ?_, hbel.trans (hb.mono ?_)⟩
  · simp
  · unfold padBH; rw [← hz]; exact hB
  · simp
 have hlen : (padBH n).length = 1 + z + 8 := by rw [padB_lenH, ← hz]; omega
 rw [hlen]
 have HP := Lib.hid hput
 clear b1 b2 hrd hput hbel hlen hz hq er
 go_enter Tryz.func109, Tryz.ntmps109
 go_wp2_with (go_at_call 35; ((with_reducible refine (Hid.out HP).mono ?_); rintro e w' ⟨g, rfl, hg, hB, hb⟩))
 go_ret
 exact ⟨g, rfl, hg, hB, hb⟩

def stC (s : S5) (r : List UInt8) (n : Nat) : List Value := c32 s.l ++ (cells r ++ [.int .i64 (n : Int)])
theorem stC_len (s : S5) (r : List UInt8) (n : Nat) (h : r.length = 64) : (stC s r n).length = 70 := by simp [stC, c32_len, length_cells, h, S5.l]
theorem stC_words (s s' : S5) (r : List UInt8) (n : Nat) : splice (stC s r n) 0 (c32 s'.l) = stC s' r n := by simp [splice, stC, c32, S5.l]
theorem stC_rest (s : S5) (r : List UInt8) (n a : Nat) (x : List UInt8) (h : r.length = 64) (hx : a + x.length ≤ 64) : splice (stC s r n) (5 + a) (cells x) = stC s (splice r a x) n := by
 have e0 : (c32 s.l).length = 5 := by simp [c32_len, S5.l]
 unfold splice stC
 have e1 : (c32 s.l ++ (cells r ++ [Value.int .i64 (n : Int)])).take (5 + a) = c32 s.l ++ cells (r.take a) := by
  rw [List.take_append, e0, List.take_of_length_le (by omega), show 5 + a - 5 = a by omega, List.take_append_of_le_length (by rw [length_cells]; omega)]
  simp [cells]
 have e2 : (c32 s.l ++ (cells r ++ [Value.int .i64 (n : Int)])).drop (5 + a + (cells x).length) = cells (r.drop (a + x.length)) ++ [.int .i64 (n : Int)] := by
  rw [length_cells, List.drop_append, e0, List.drop_of_length_le (by omega), List.nil_append, show 5 + a + x.length - 5 = a + x.length by omega, List.drop_append_of_le_length (by rw [length_cells]; omega)]
  simp [cells]
 rw [e1, e2, cells_append, cells_append]
 simp
theorem stC_size (s : S5) (r : List UInt8) (n k : Nat) (h : r.length = 64) : (stC s r n).set 69 (.int .i64 (k : Int)) = stC s r k := by
 have e0 : (c32 s.l).length = 5 := by simp [c32_len, S5.l]
 unfold stC
 rw [List.set_append_right _ _ (by omega), List.set_append_right _ _ (by rw [length_cells]; omega), e0, length_cells, h]
 rfl
theorem stC_atWords (s : S5) (r : List UInt8) (n i : Nat) (h : i < (c32 s.l).length) : (stC s r n)[0 + i]? = (c32 s.l)[i]? := by
 unfold stC
 rw [Nat.zero_add, List.getElem?_append_left h]
theorem stC_atRest (s : S5) (r : List UInt8) (n i : Nat) (h : i < (cells r).length) : (stC s r n)[5 + i]? = (cells r)[i]? := by
 have e0 : (c32 s.l).length = 5 := by simp [c32_len, S5.l]
 unfold stC
 rw [List.getElem?_append_right (by omega), e0, show 5 + i - 5 = i by omega, List.getElem?_append_left h]
theorem stC_atSize (s : S5) (r : List UInt8) (n : Nat) (h : r.length = 64) : (stC s r n)[69]? = some (.int .i64 (n : Int)) := by
 have e0 : (c32 s.l).length = 5 := by simp [c32_len, S5.l]
 unfold stC
 rw [List.getElem?_append_right (by omega), e0, List.getElem?_append_right (by rw [length_cells]; omega), length_cells, h]
 rfl
theorem stC_one (s : S5) (r : List UInt8) (n : Nat) : ∀ v ∈ stC s r n, v.oneCell' = true := by
 intro v hv
 unfold stC at hv
 simp only [List.mem_append, List.mem_singleton] at hv
 rcases hv with hv | hv | rfl
 · exact c32_one _ v hv
 · exact cells_one _ v hv
 · rfl

def Inv (s : S5) (r m : List UInt8) : Prop := r.length = 64 ∧ s = hN m (m.length / 64) ∧ r.take (m.length % 64) = m.drop (64 * (m.length / 64))
theorem Inv.start (r : List UInt8) (h : r.length = 64) : Inv h0 r [] := ⟨h, rfl, by simp⟩
theorem Inv.ok {s : S5} {r m : List UInt8} (h : Inv s r m) : s.ok := by rw [h.2.1]; exact hN_ok _ _
theorem splice_take {r x : List UInt8} {a : Nat} (h : a + x.length ≤ r.length) : (splice r a x).take (a + x.length) = r.take a ++ x := by
 unfold splice
 rw [← List.append_assoc, List.take_append_of_le_length (by simp; omega), List.take_of_length_le (by simp; omega)]
theorem Inv.rest {s : S5} {r m x : List UInt8} (h : Inv s r m) (hx : m.length % 64 + x.length ≤ 64) :
 (splice r (m.length % 64) x).take (m.length % 64 + x.length) = (m ++ x).drop (64 * (m.length / 64)) := by
 rw [splice_take (by rw [h.1]; exact hx), h.2.2, List.drop_append_of_le_length (by omega)]
theorem Inv.part {s : S5} {r m x : List UInt8} (h : Inv s r m) (hx : m.length % 64 + x.length < 64) : Inv s (splice r (m.length % 64) x) (m ++ x) := by
 have e : (m ++ x).length / 64 = m.length / 64 := by rw [List.length_append]; omega
 have e2 : (m ++ x).length % 64 = m.length % 64 + x.length := by rw [List.length_append]; omega
 refine ⟨by rw [length_splice _ _ _ (by rw [h.1]; omega)]; exact h.1, ?_, ?_⟩
 · rw [e, hN_append m x _ (by omega)]; exact h.2.1
 · rw [e2, e]; exact h.rest (by omega)
theorem Inv.full {s : S5} {r m x : List UInt8} (h : Inv s r m) (hx : m.length % 64 + x.length = 64) : Inv (blockW s (splice r (m.length % 64) x)) (splice r (m.length % 64) x) (m ++ x) := by
 have e : (m ++ x).length / 64 = m.length / 64 + 1 := by rw [List.length_append]; omega
 have e2 : (m ++ x).length % 64 = 0 := by rw [List.length_append]; omega
 have hl : (splice r (m.length % 64) x).length = 64 := by rw [length_splice _ _ _ (by rw [h.1]; omega)]; exact h.1
 have hr := h.rest (x := x) (by omega)
 rw [hx, List.take_of_length_le (by omega)] at hr
 refine ⟨hl, ?_, ?_⟩
 · rw [e, hN, hN_append m x _ (by omega), ← h.2.1, ← hr, List.take_of_length_le (by omega)]
 · rw [e2, e, List.take_zero, List.drop_of_length_le (by rw [List.length_append]; omega)]
def StInv (w : World) (p : Nat) (m : List UInt8) : Prop := ∃ (s : S5) (r : List UInt8), Inv s r m ∧ BlkV w p 176 (stC s r m.length)
def StIs (w : World) (p : Nat) (m : List UInt8) : Prop := ∃ (s : S5) (r : List UInt8), r.length = 64 ∧ BlkV w p 176 (stC s r m.length) ∧ (m ≠ [] → Inv s r m)
theorem StInv.is {w : World} {p : Nat} {m : List UInt8} (h : StInv w p m) : StIs w p m := by
 obtain ⟨s, r, hi, hB⟩ := h
 exact ⟨s, r, hi.1, hB, fun _ => hi⟩
theorem StIs.grown {w w' : World} {p : Nat} {m : List UInt8} {row : Option Nat} (h : StIs w p m) (hg : w.grownBy w' row) (hp : some p ≠ row) : StIs w' p m := by
 obtain ⟨s, r, hi, hB, hm⟩ := h
 exact ⟨s, r, hi, hB.grown hg hp, hm⟩
theorem StIs.lt {w : World} {p : Nat} {m : List UInt8} (h : StIs w p m) : p < w.heap.size := by
 obtain ⟨s, r, hi, hB, hm⟩ := h
 exact hB.lt
def TabH (w : World) : Prop := w.rangeAt 1 0 (c32 h0.l)
theorem TabH.grown {w w' : World} {row : Option Nat} (h : TabH w) (hg : w.grownBy w' row) (hr : some 1 ≠ row) : TabH w' := fun j v hv => hg.cell (h j v hv) hr
end Go.Proofs.YtheefckohnaceaaGreatDoor
