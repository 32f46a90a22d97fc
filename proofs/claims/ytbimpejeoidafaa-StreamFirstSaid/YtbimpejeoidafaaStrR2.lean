/- Contracts of the document's answer of layer 6: the first counter. No statement is proved here. -/
import Derived.Test.YtbimpejeoidafaaStrR1
namespace Go.Proofs.Ytbimpejeoidafaa
open Go.RowKit
set_option linter.unusedVariables false

/-- A row of the call's own, in block g1, which is not block G. -/
theorem own_rows {w : World} {base n : Nat} {e : TypeId} {v : Value} {bs : List UInt8} (h : w.ownsRow base e 1 v n (cells bs)) (hn : 0 < n) : ∃ g cap, v = .slice (some ⟨g, 0, none⟩) n cap ∧ base ≤ g ∧ g < w.heap.size ∧ ∀ j, j < n → w.cell? ⟨g, j, none⟩ = some (.int .u8 ((bs.getD j 0).toNat : Int)) := by
  have hl : bs.length = n := by simpa [length_cells] using h.1
  obtain ⟨g, cap, hv, hb, hg⟩ := h.form hn
  subst hv
  exact ⟨g, cap, rfl, hb, hg, fun j hj => (h.cellAt j (by omega)).trans (cells_at (by omega))⟩
theorem cells_only {w w' : World} {g k n : Nat} {f : Nat → Value} (h : ∀ j, j < n → w.cell? ⟨g, j, none⟩ = some (f j)) (ho : Only k w w') (hk : g ≠ k) : ∀ j, j < n → w'.cell? ⟨g, j, none⟩ = some (f j) :=
  fun j hj => (World.cell?_of_block (w := w) (a := ⟨g, j, none⟩) (ho.block g hk)).trans (h j hj)
theorem salt_fill (salt : List UInt8) (h : salt.length = 14) : fillAt (fun i => salt.getD i 0) Z16 14 = saltZ salt := by
  have e : (List.range 14).map (fun i => salt.getD i 0) = salt := list_tab salt h
  rw [fillAt, e]
  rfl

set_option maxRecDepth 100000 in
set_option maxHeartbeats 4000000 in
theorem rfirst_any (salt : List UInt8) (s x : Nat) (w : World) (hs : salt.length = 14) (hsl : s < 4294967296) (hx : x < 18446744073709551616) :
    Calls Try.prog 8 #[.agg (cells salt).toArray, .int .u32 (s : Int), .int .u64 (x : Int)] w fun e w' => e = .returned (.agg (cells (firstC salt s x)).toArray) ∧ Below w.heap.size w w' := by
  have hz := zero16
  obtain ⟨hb0, h0, h1, h2⟩ := first_boxes w salt
  have hsf := salt_fill salt hs
  have hsz : (saltZ salt).length = 16 := saltZ_len _ hs
  have hfl : (firstS salt s).length = 16 := firstS_len _ _ hs
  have hfi := firstC_is salt s x hs
  have hfc : (cells (firstC salt s x)).length = 16 := by rw [length_cells, firstC_len _ _ _ hs]
  obtain ⟨F, hF⟩ : ∃ F, F = firstC salt s x := ⟨_, rfl⟩
  rw [← hF] at hfc hfi ⊢
  obtain ⟨f1, hf1⟩ : ∃ f, f = xrB (saltZ salt) (beb 4 s) 4 := ⟨_, rfl⟩
  have hS4 : fillO f1 4 (saltZ salt) 4 = firstS salt s := by rw [hf1]; rfl
  have hx1 : ∀ i, (saltZ salt).getD (4 + i) 0 ^^^ (beb 4 s).getD i 0 = f1 i := fun i => by rw [hf1]; rfl
  obtain ⟨SZ, hSZ⟩ : ∃ SZ, SZ = saltZ salt := ⟨_, rfl⟩
  rw [← hSZ] at hsf hsz hS4
  simp only [← hSZ] at hx1
  obtain ⟨FS, hFS⟩ : ∃ FS, FS = firstS salt s := ⟨_, rfl⟩
  rw [← hFS] at hS4 hfl hfi
  obtain ⟨f2, hf2⟩ : ∃ f, f = xrB FS (beb 6 x) 8 := ⟨_, rfl⟩
  rw [← hf2] at hfi
  have hx2 : ∀ i, FS.getD (8 + i) 0 ^^^ (beb 6 x).getD i 0 = f2 i := fun i => by rw [hf2]; rfl
  obtain ⟨f0, hf0⟩ : ∃ f : Nat → UInt8, f = fun i => salt.getD i 0 := ⟨_, rfl⟩
  rw [← hf0] at hsf
  have hx0 : ∀ i, salt.getD i 0 = f0 i := fun i => by rw [hf0]
  have hp1 : ∀ wx : World, Calls Try.prog 16 #[.slice none 0 0, .int .i64 4, .int .u64 (s : Int)] wx (Made wx (beb 4 s)) := fun wx => rput_some none 0 0 [] 4 s wx (RdS.nil _) (by omega) (by omega) (by omega) (by omega)
  have hp2 : ∀ wx : World, Calls Try.prog 16 #[.slice none 0 0, .int .i64 6, .int .u64 (x : Int)] wx (Made wx (beb 6 x)) := fun wx => rput_some none 0 0 [] 6 x wx (RdS.nil _) (by omega) (by omega) hx (by omega)
  have hwr : IntKind.u64.wrap (s : Int) = (s : Int) := by rw [IntKind.wrap_u64]; omega
  have hZL : (cells Z16).length = 16 := by rw [length_cells, Z16_len]
  have HZL := Lib.hid hZL
  have HSF := Lib.hid hsf
  have HSZ := Lib.hid hsz
  have HFL := Lib.hid hfl
  have HFI := Lib.hid hfi
  have HFC := Lib.hid hfc
  have HS4 := Lib.hid hS4
  have HX0 := Lib.hid hx0
  have HX1 := Lib.hid hx1
  have HX2 := Lib.hid hx2
  have HP1 := Lib.hid hp1
  have HP2 := Lib.hid hp2
  have HS := Lib.hid hs
  clear hZL hsf hsz hfl hfi hfc hS4 hx0 hx1 hx2 hp1 hp2 hF hf1 hSZ hFS hf2 hf0 hs
  have h2' : Blk (((w.alloc (Obj.cells (cells salt).toArray 22)).alloc (Obj.cells (cells Z16).toArray 25)).alloc (Obj.cells (cells Z16).toArray 25)) (w.heap.size + 1 + 1) 25 (fillAt f0 Z16 0) := by rw [fillAt_zero]; exact h2
  have hG := h2.lt
  clear h2
  go_enter Try.func8, Try.ntmps8
  go_wp2_with (first
    | (go_at_call 16; ((with_reducible refine (HP1.out _).mono ?_); rintro e w1 ⟨v1, rfl, ho1, hb1⟩))
    | (go_at_call 16; ((with_reducible refine (HP2.out w1).mono ?_); rintro e w2 ⟨v2, rfl, ho2, hb2⟩)))
  rw [length_beb] at ho1 ho2
  obtain ⟨g1, c1, rfl, hg1, hgl1, hc1⟩ := own_rows ho1 (by omega)
  obtain ⟨g2, c2, rfl, hg2, hgl2, hc2⟩ := own_rows ho2 (by omega)
  have k1 : ∀ j, j < 4 → w2.cell? ⟨g1, j, none⟩ = some (.int .u8 (((beb 4 s).getD j 0).toNat : Int)) := fun j hj => (hb2.cell (p := ⟨g1, j, none⟩) hgl1).trans (hc1 j hj)
  have j0 := (h0.below hb1 h0.lt).below hb2 (Nat.lt_of_lt_of_le h0.lt hb1.size)
  have j1 := (h1.below hb1 h1.lt).below hb2 (Nat.lt_of_lt_of_le h1.lt hb1.size)
  have j2 := (h2'.below hb1 h2'.lt).below hb2 (Nat.lt_of_lt_of_le h2'.lt hb1.size)
  have jb := (hb0.trans (hb1.mono hb0.size)).trans (hb2.mono (Nat.le_trans hb0.size hb1.size))
  have hs1 := hb1.size
  have hG1 : w.heap.size + 1 + 1 < g1 := by omega
  have hG2 : w.heap.size + 1 + 1 < g2 := by omega
  clear h0 h1 h2' hb0 hb1 hb2 ho1 ho2 hg1 hg2 hgl1 hgl2 hc1 hG hs1 HP1 HP2 hwr
  obtain ⟨G, hGe⟩ : ∃ G, G = w.heap.size + 1 + 1 := ⟨_, rfl⟩
  rw [← hGe] at j2 hG1 hG2 ⊢
  have hwG : w.heap.size + 1 < G := by omega
  clear hGe
  go_loopw [10] (fun vi wr => ∃ i : Nat, i ≤ 14 ∧ vi = .int .i64 i ∧ Blk wr G 25 (fillAt f0 Z16 i) ∧ Blk wr w.heap.size 22 salt ∧ Blk wr (w.heap.size + 1) 25 Z16 ∧ (∀ j, j < 4 → wr.cell? ⟨g1, j, none⟩ = some (.int .u8 (((beb 4 s).getD j 0).toNat : Int))) ∧ (∀ j, j < 6 → wr.cell? ⟨g2, j, none⟩ = some (.int .u8 (((beb 6 x).getD j 0).toNat : Int))) ∧ Below w.heap.size w wr) (fun i _ => 14 - (intOf i).toNat)
  case atStart => exact ⟨0, by omega, rfl, j2, j0, j1, k1, hc2, jb⟩
  case round =>
    clear j2 j0 j1 k1 hc2 jb
    obtain ⟨i, hi, rfl, j2, j0, j1, k1, k2, jb⟩ := hrel
    by_cases hlt : i < 14
    · have hcs := j0.cell (j := i) (by rw [HS.out]; exact hlt)
      rw [HX0.out i] at hcs
      have hcell := j2.cell (j := i) (by rw [fillAt_len _ _ _ (by rw [Z16_len]; omega), Z16_len]; omega)
      have hfr := j2.frozen i
      have hst := j2.set_ i (f0 i)
      rw [fillAt_step _ _ _ (by rw [Z16_len]; omega)] at hst
      have ho := Only.set wr G i (.int .u8 ((f0 i).toNat : Int))
      have q0 := Blk.only j0 ho (by omega)
      have q1 := Blk.only j1 ho (by omega)
      have p1 := cells_only k1 ho (by omega)
      have p2 := cells_only k2 ho (by omega)
      have qb := jb.trans (ho.below (by omega))
      obtain ⟨a, ha⟩ : ∃ a : Int, a = ((f0 i).toNat : Int) := ⟨_, rfl⟩
      obtain ⟨y, hy⟩ : ∃ y : Int, y = (((fillAt f0 Z16 i).getD i 0).toNat : Int) := ⟨_, rfl⟩
      rw [← ha] at hcs hst q0 q1 qb
      simp only [← ha] at p1 p2
      rw [← hy] at hcell
      clear ha hy k1 k2 ho
      have P1 := Lib.hid p1
      have P2 := Lib.hid p2
      clear p1 p2
      go_wp2
      go_roundw
      case rel => exact ⟨i + 1, by omega, by go_num, hst, q0, q1, P1.out, P2.out, qb⟩
      case measure => simp [intOf]; omega
    · obtain rfl : i = 14 := by omega
      rw [HSF.out] at j2
      have j2' : Blk wr G 25 (fillO f1 4 SZ 0) := by rw [fillO_zero]; exact j2
      clear j2
      have K1 := Lib.hid k1
      have K2 := Lib.hid k2
      clear k1 k2
      go_wp2
      simp only [Int.cast_ofNat_Int]
      go_loopw [11] (fun vi wr => ∃ i : Nat, i ≤ 4 ∧ vi = .int .i64 i ∧ Blk wr G 25 (fillO f1 4 SZ i) ∧ Blk wr (w.heap.size + 1) 25 Z16 ∧ (∀ j, j < 4 → wr.cell? ⟨g1, j, none⟩ = some (.int .u8 (((beb 4 s).getD j 0).toNat : Int))) ∧ (∀ j, j < 6 → wr.cell? ⟨g2, j, none⟩ = some (.int .u8 (((beb 6 x).getD j 0).toNat : Int))) ∧ Below w.heap.size w wr) (fun i _ => 4 - (intOf i).toNat)
      case atStart => exact ⟨0, by omega, rfl, j2', j1, K1.out, K2.out, jb⟩
      case round =>
        clear j2' j0 j1 K1 K2 jb
        obtain ⟨i, hi, rfl, j2, j1, k1, k2, jb⟩ := hrel
        by_cases hlt : i < 4
        · obtain ⟨I, hI⟩ : ∃ I, I = 4 + i := ⟨_, rfl⟩
          have hSl : 4 + i < SZ.length := by rw [HSZ.out]; omega
          have hcell := j2.cell (j := 4 + i) (by rw [fillO_len _ _ _ _ (by omega)]; exact hSl)
          rw [fillO_ge _ _ _ _ (by omega)] at hcell
          have hfr := j2.frozen (4 + i)
          have hst := j2.set_ (4 + i) (f1 i)
          rw [fillO_step _ _ _ _ hSl] at hst
          have hsrc := k1 i hlt
          have ho := Only.set wr G (4 + i) (.int .u8 ((f1 i).toNat : Int))
          have q1 := Blk.only j1 ho (by omega)
          have p1 := cells_only k1 ho (by omega)
          have p2 := cells_only k2 ho (by omega)
          have qb := jb.trans (ho.below (by omega))
          have hxr := xr8 (SZ.getD (4 + i) 0) ((beb 4 s).getD i 0)
          rw [HX1.out i] at hxr
          obtain ⟨a, ha⟩ : ∃ a : Int, a = ((f1 i).toNat : Int) := ⟨_, rfl⟩
          obtain ⟨y, hy⟩ : ∃ y : Int, y = ((SZ.getD (4 + i) 0).toNat : Int) := ⟨_, rfl⟩
          obtain ⟨z, hz⟩ : ∃ z : Int, z = (((beb 4 s).getD i 0).toNat : Int) := ⟨_, rfl⟩
          rw [← ha] at hxr hst q1 qb
          simp only [← ha] at p1 p2
          rw [← hy] at hcell hxr
          rw [← hz] at hsrc hxr
          rw [← hI] at hcell hfr hst q1 qb
          simp only [← hI] at p1 p2
          have e1 : IntKind.i64.wrap (4 + (i : Int)) = (I : Int) := by rw [show 4 + (i : Int) = (I : Int) by omega]; exact IntWalk.i64_in _ (by omega)
          have b1 : (I : Int) < 16 := by omega
          have b2 : I < 16 := by omega
          have b3 : (i : Int) < 4 := by omega
          clear ha hy hz hI k1 k2 ho hSl
          have P1 := Lib.hid p1
          have P2 := Lib.hid p2
          clear p1 p2
          go_wp2
          go_still_tail 12, (by kernel_rfl)
          change wpList _ _ _ _ _ wr.drew
          clear e1 hsrc b1 b2
          go_wp2
          go_roundw
          case rel => exact ⟨i + 1, by omega, by go_num, hst, q1, P1.out, P2.out, qb.drew⟩
          case measure => simp [intOf]; omega
        · obtain rfl : i = 4 := by omega
          rw [HS4.out] at j2
          have j2' : Blk wr G 25 (fillO f2 8 FS 0) := by rw [fillO_zero]; exact j2
          clear j2
          have K1 := Lib.hid k1
          have K2 := Lib.hid k2
          clear k1 k2
          go_wp2
          simp only [Int.cast_ofNat_Int]
          go_loopw [12] (fun vi wr => ∃ i : Nat, i ≤ 6 ∧ vi = .int .i64 i ∧ Blk wr G 25 (fillO f2 8 FS i) ∧ Blk wr (w.heap.size + 1) 25 Z16 ∧ (∀ j, j < 4 → wr.cell? ⟨g1, j, none⟩ = some (.int .u8 (((beb 4 s).getD j 0).toNat : Int))) ∧ (∀ j, j < 6 → wr.cell? ⟨g2, j, none⟩ = some (.int .u8 (((beb 6 x).getD j 0).toNat : Int))) ∧ Below w.heap.size w wr) (fun i _ => 6 - (intOf i).toNat)
          case atStart => exact ⟨0, by omega, rfl, j2', j1, K1.out, K2.out, jb⟩
          case round =>
            clear j2' j1 K1 K2 jb
            obtain ⟨i, hi, rfl, j2, j1, k1, k2, jb⟩ := hrel
            by_cases hlt : i < 6
            · obtain ⟨I, hI⟩ : ∃ I, I = 8 + i := ⟨_, rfl⟩
              have hSl : 8 + i < FS.length := by rw [HFL.out]; omega
              have hcell := j2.cell (j := 8 + i) (by rw [fillO_len _ _ _ _ (by omega)]; exact hSl)
              rw [fillO_ge _ _ _ _ (by omega)] at hcell
              have hfr := j2.frozen (8 + i)
              have hst := j2.set_ (8 + i) (f2 i)
              rw [fillO_step _ _ _ _ hSl] at hst
              have hsrc := k2 i hlt
              have ho := Only.set wr G (8 + i) (.int .u8 ((f2 i).toNat : Int))
              have q1 := Blk.only j1 ho (by omega)
              have p1 := cells_only k1 ho (by omega)
              have p2 := cells_only k2 ho (by omega)
              have qb := jb.trans (ho.below (by omega))
              have hxr := xr8 (FS.getD (8 + i) 0) ((beb 6 x).getD i 0)
              rw [HX2.out i] at hxr
              obtain ⟨a, ha⟩ : ∃ a : Int, a = ((f2 i).toNat : Int) := ⟨_, rfl⟩
              obtain ⟨y, hy⟩ : ∃ y : Int, y = ((FS.getD (8 + i) 0).toNat : Int) := ⟨_, rfl⟩
              obtain ⟨z, hz⟩ : ∃ z : Int, z = (((beb 6 x).getD i 0).toNat : Int) := ⟨_, rfl⟩
              rw [← ha] at hxr hst q1 qb
              simp only [← ha] at p1 p2
              rw [← hy] at hcell hxr
              rw [← hz] at hsrc hxr
              rw [← hI] at hcell hfr hst q1 qb
              simp only [← hI] at p1 p2
              have e1 : IntKind.i64.wrap (8 + (i : Int)) = (I : Int) := by rw [show 8 + (i : Int) = (I : Int) by omega]; exact IntWalk.i64_in _ (by omega)
              have b1 : (I : Int) < 16 := by omega
              have b2 : I < 16 := by omega
              have b3 : (i : Int) < 6 := by omega
              clear ha hy hz hI k1 k2 ho hSl
              have P1 := Lib.hid p1
              have P2 := Lib.hid p2
              clear p1 p2
              go_wp2
              go_still_tail 12, (by kernel_rfl)
              change wpList _ _ _ _ _ wr.drew
              clear e1 hsrc b1 b2
              go_wp2
              go_roundw
              case rel => exact ⟨i + 1, by omega, by go_num, hst, q1, P1.out, P2.out, qb.drew⟩
              case measure => simp [intOf]; omega
            · obtain rfl : i = 6 := by omega
              rw [HFI.out] at j2
              clear k1 k2
              go_wp2_with (first
                | (with_reducible refine wpList_ld rfl 25 (.tmp 7) rfl G 0 rfl (cells F) (j2.v.range 0 _ (by simp)) (row16 HFC.out) ?_)
                | ((with_reducible refine wpList_st rfl 25 (.tmp 6) (.tmp 59) rfl (w.heap.size + 1) 0 (cells F) rfl rfl 25 _ j1.v (by rw [HFC.out, HZL.out]; omega) (row16 HFC.out) (cells_one _) ?_); intro w7 hB7 ho7; rw [splice_all _ _ (by rw [HFC.out, HZL.out])] at hB7))
              exact ret_row (by rfl) (by rfl) hB7 (row16 HFC.out) (by rfl) ⟨rfl, jb.trans (ho7.below (by omega))⟩
end Go.Proofs.Ytbimpejeoidafaa
