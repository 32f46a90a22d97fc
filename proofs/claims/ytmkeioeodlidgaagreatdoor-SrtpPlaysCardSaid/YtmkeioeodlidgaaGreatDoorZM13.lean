/- Several texts in one: plain words and walks. No statement is proved here. -/
import Derived.Test.YtmkeioeodlidgaaGreatDoorZM11
import Derived.Test.YtmkeioeodlidgaaGreatDoorZM4
import Derived.Test.YtmkeioeodlidgaaGreatDoorZM12
import Derived.Test.YtmkeioeodlidgaaGreatDoorZAesR3
import Derived.Deep.DeepCutAuto
import Derived.Test.YtmkeioeodlidgaaGreatDoorZBytes
import Derived.Test.YtmkeioeodlidgaaGreatDoorZM5
namespace Go.Proofs.YtmkeioeodlidgaaGreatDoor
open List renaming getElem_toArray → xgT, getElem_cons_succ → xgS, getElem_cons_zero → xgZ, setIfInBounds_toArray → xsT, set_cons_succ → xsS, set_cons_zero → xsZ
open Go.RowKit
set_option linter.unusedVariables false

theorem NW.ciphS {w0 : World} {key : List UInt8} {p gB : Nat} {vW : Value} {vs : List Value} {w : World} (h : NW w0 key p gB 44 vW vs w) : ∃ gW cW, RCiph w p gB gW cW key := by
 obtain ⟨gW, cW, hv, _, hgl⟩ := h.own.form (by omega)
 subst hv
 refine ⟨gW, cW, (h.hp.cell 0).trans rfl, (h.hp.cell 1).trans rfl, h.hp.lt, h.hB.lt, hgl, fun i hi => h.hB.cell (by rw [boxT_len]; exact hi), fun j hj => ?_⟩
 obtain ⟨b, o, c, h1, _, h3, _, h5⟩ := h.rows j hj
 exact ⟨b, o, c, (h.own.cellAt j (by omega)).trans h1, h3, h5⟩
theorem rnewS_any (key : List UInt8) (w : World) (hk : key.length = 16) :
 Calls Tryz.prog 81 #[.agg (cells key).toArray] w fun e w' => ∃ p gB gW cW, e = .returned (.pointer (some ⟨p, 0, none⟩)) ∧ RCiph w' p gB gW cW key ∧ Below w.heap.size w w' :=
 (rnew_any key w hk).mono fun _ _ ⟨p, gB, _, _, he, h⟩ => by
   obtain ⟨gW, cW, hc⟩ := h.ciphS
   exact ⟨p, gB, gW, cW, he, hc, h.b⟩

set_option maxRecDepth 100000 in
set_option maxHeartbeats 1000000 in
theorem rplus_any (c : List UInt8) (n : Nat) (w : World) (hc : c.length = 16) (hn : n ≤ 1152921504606846976) :
 Calls Tryz.prog 83 #[.agg (cells c).toArray, .int .i64 (n : Int)] w fun e w' => e = .returned (.agg (cells (plusC c n)).toArray) ∧ Below w.heap.size w w' := by
 have hz := zero16
 obtain ⟨hb0, h0, h1, _⟩ := block_base w c
 have hZL : (cells Z16).length = 16 := by rw [length_cells, Z16_len]
 have HZL := Lib.hid hZL
 have hPL : (cells (plusC c n)).length = 16 := by rw [length_cells, plusC_len]
 have HPL := Lib.hid hPL
 have h0' : Blk ((w.alloc (Obj.cells (cells c).toArray 22)).alloc (Obj.cells (cells Z16).toArray 22)) w.heap.size 22 (plR c n 0) := by rw [plR_zero c n hc]; exact h0
 have hN := (plN_zero c n hc).symm
 have HN := Lib.hid hN
 have HC := Lib.hid hc
 clear h0 hc hZL hPL hN
 go_enter Tryz.func83, Tryz.ntmps83
 go_wp2
 go_loopw [1, 5] (fun vn vi wr => ∃ k J m : Nat, Hid (J + k = 16) ∧ vi = .int .i64 ((J : Int) - 1) ∧ vn = .int .i64 (m : Int) ∧ m ≤ n + 1 ∧ Hid (m = plN c n k) ∧ Blk wr w.heap.size 22 (plR c n k) ∧ Blk wr (w.heap.size + 1) 22 Z16 ∧ Below w.heap.size w wr) (fun _ i _ => (intOf i + 1).toNat)
 case atStart => exact ⟨0, 16, n, Lib.hid rfl, rfl, rfl, by omega, HN, h0', h1, hb0⟩
 case round =>
  clear h0' HN h1 hb0
  obtain ⟨k, J, m, HJ, rfl, rfl, hm, HM, h2, h1, hb⟩ := hrel
  rcases Nat.eq_zero_or_pos J with h | h
  · subst h
    have hk : k = 16 := by have := HJ.out; omega
    subst hk
    rw [plR_all c n] at h2
    clear HM
    go_wp2_with (first
     | (with_reducible refine wpList_ld rfl 22 (.tmp 2) rfl w.heap.size 0 rfl (cells (plusC c n)) (h2.v.range 0 _ (by simp)) (row16 HPL.out) ?_)
     | ((with_reducible refine wpList_st rfl 22 (.tmp 4) (.tmp 23) rfl (w.heap.size + 1) 0 (cells (plusC c n)) rfl rfl 22 _ h1.v (by rw [HPL.out, HZL.out]; omega) (row16 HPL.out) (cells_one _) ?_); intro w2 hB2 ho2; rw [splice_all _ _ (by rw [HPL.out, HZL.out])] at hB2))
    exact ret_row (by rfl) (by rfl) hB2 (row16 HPL.out) (by rfl) ⟨rfl, hb.trans (ho2.below (by omega))⟩
  · obtain ⟨j, rfl⟩ : ∃ j, J = j + 1 := ⟨J - 1, by omega⟩
    have hjk : 15 - k = j := by have := HJ.out; omega
    have hk16 : k < 16 := by have := HJ.out; omega
    have hj16 : j < 16 := by omega
    have hcell := h2.cell (j := j) (by rw [plR_len c n k HC.out (by omega)]; exact hj16)
    have hget := plR_get c n k HC.out hk16
    rw [hjk] at hget
    rw [hget] at hcell
    have hfr := h2.frozen j
    rw [down1 j]
    have hyl := (c.getD j 0).toNat_lt
    obtain ⟨m2, hm2⟩ : ∃ m2, m2 = m + (c.getD j 0).toNat := ⟨_, rfl⟩
    have hsucc := plN_succ c n k HC.out hk16
    rw [hjk, ← HM.out, ← hm2] at hsucc
    have hst := h2.set_ j (UInt8.ofNat m2)
    have hset := plR_set c n k HC.out hk16 (UInt8.ofNat m2) (by rw [hjk, ← HM.out, ← hm2])
    rw [hjk] at hset
    rw [hset] at hst
    have hby := byte_mod m2
    have h1s := h1.far (p := ⟨w.heap.size, j, none⟩) (by simp) (.int .u8 ((UInt8.ofNat m2).toNat : Int))
    have hbs := hb.setCell (p := ⟨w.heap.size, j, none⟩) (by simp) (.int .u8 ((UInt8.ofNat m2).toNat : Int))
    obtain ⟨y, hy⟩ : ∃ y : Int, y = ((c.getD j 0).toNat : Int) := ⟨_, rfl⟩
    rw [← hy] at hcell
    obtain ⟨v, hv⟩ : ∃ v : Int, v = ((UInt8.ofNat m2).toNat : Int) := ⟨_, rfl⟩
    rw [← hv] at hst h1s hbs hby
    have hvl : v < 256 ∧ 0 ≤ v := by omega
    obtain ⟨m3, hm3⟩ : ∃ m3, m3 = m2 / 256 := ⟨_, rfl⟩
    rw [← hm3] at hsucc
    have e0 : IntKind.i64.wrap y = y := IntWalk.i64_in _ (by omega)
    have e1 : IntKind.i64.wrap ((m : Int) + y) = (m2 : Int) := by rw [show (m : Int) + y = (m2 : Int) by omega]; exact IntWalk.i64_in _ (by omega)
    have e2 : (m2 : Int).tmod 256 = v := by rw [Int.tmod_eq_emod_of_nonneg (by omega)]; exact hby
    have e3 : IntKind.i64.wrap v = v := IntWalk.i64_in _ (by omega)
    have e4 : IntKind.u8.wrap v = v := by rw [IntKind.wrap_u8]; omega
    have e5 : (m2 : Int).tdiv 256 = (m3 : Int) := by rw [Int.tdiv_eq_ediv_of_nonneg (by omega)]; omega
    have e6 : IntKind.i64.wrap (m3 : Int) = (m3 : Int) := IntWalk.i64_in _ (by omega)
    have hm4 : m3 ≤ n + 1 := by omega
    have HJ2 : Hid (j + (k + 1) = 16) := Lib.hid (by have := HJ.out; omega)
    have HS := Lib.hid hsucc.symm
    clear hy hv hm2 hm3 hget hset hby hyl hsucc h2 HM hm hvl
    go_wp2
    go_roundw
    case rel => exact ⟨k + 1, j, m3, HJ2, by go_num, by go_num, hm4, Lib.hid HS.out.symm, hst, h1s, hbs⟩
    case measure => simp [intOf]
theorem own_rows {w : World} {base n : Nat} {e : TypeId} {v : Value} {bs : List UInt8} (h : w.ownsRow base e 1 v n (cells bs)) (hn : 0 < n) : ∃ g cap, v = .slice (some ⟨g, 0, none⟩) n cap ∧ base ≤ g ∧ g < w.heap.size ∧ ∀ j, j < n → w.cell? ⟨g, j, none⟩ = some (.int .u8 ((bs.getD j 0).toNat : Int)) := by
 have hl : bs.length = n := by simpa [length_cells] using h.1
 obtain ⟨g, cap, hv, hb, hg⟩ := h.form hn
 subst hv
 exact ⟨g, cap, rfl, hb, hg, fun j hj => (h.cellAt j (by omega)).trans (cells_at (by omega))⟩
theorem cells_only {w w' : World} {g k n : Nat} {f : Nat → Value} (h : ∀ j, j < n → w.cell? ⟨g, j, none⟩ = some (f j)) (ho : Only k w w') (hk : g ≠ k) : ∀ j, j < n → w'.cell? ⟨g, j, none⟩ = some (f j) :=
 fun j hj => (World.cell?_of_block (w := w) (a := ⟨g, j, none⟩) (ho.block g hk)).trans (h j hj)
theorem salt_fill (salt : List UInt8) (h : salt.length = 14) : fillAt (fun i => salt.getD i 0) Z16 14 = saltZ salt := by
 have e : (List.range 14).map (fun i => salt.getD i 0) = salt := list_tab salt h
 rw [fillAt, e]
 rfl

set_option maxRecDepth 100000 in
set_option maxHeartbeats 4000000 in
theorem rfirst_any (salt : List UInt8) (s x : Nat) (w : World) (hs : salt.length = 14) (hsl : s < 4294967296) (hx : x < 18446744073709551616) :
 Calls Tryz.prog 58 #[.agg (cells salt).toArray, .int .u32 (s : Int), .int .u64 (x : Int)] w fun e w' => e = .returned (.agg (cells (firstC salt s x)).toArray) ∧ Below w.heap.size w w' := by
 have hz := zero16
 obtain ⟨hb0, h0, h1, h2⟩ := first_boxes w salt
 have hsf := salt_fill salt hs
 have hsz : (saltZ salt).length = 16 := saltZ_len _ hs
 have hfl : (firstS salt s).length = 16 := firstS_len _ _ hs
 have hfi := firstC_is salt s x hs
 have hfc : (cells (firstC salt s x)).length = 16 := by rw [length_cells, firstC_len _ _ _ hs]
 obtain ⟨F, hF⟩ : ∃ F, F = firstC salt s x := ⟨_, rfl⟩
 rw [← hF] at hfc hfi ⊢
 obtain ⟨f1, hf1⟩ : ∃ f, f = xrB (saltZ salt) (beb 4 s) 4 := ⟨_, rfl⟩
 have hS4 : fillO f1 4 (saltZ salt) 4 = firstS salt s := by rw [hf1]; rfl
 have hx1 : ∀ i, (saltZ salt).getD (4 + i) 0 ^^^ (beb 4 s).getD i 0 = f1 i := fun i => by rw [hf1]; rfl
 obtain ⟨SZ, hSZ⟩ : ∃ SZ, SZ = saltZ salt := ⟨_, rfl⟩
 rw [← hSZ] at hsf hsz hS4
 simp only [← hSZ] at hx1
 obtain ⟨FS, hFS⟩ : ∃ FS, FS = firstS salt s := ⟨_, rfl⟩
 rw [← hFS] at hS4 hfl hfi
 obtain ⟨f2, hf2⟩ : ∃ f, f = xrB FS (beb 6 x) 8 := ⟨_, rfl⟩
 rw [← hf2] at hfi
 have hx2 : ∀ i, FS.getD (8 + i) 0 ^^^ (beb 6 x).getD i 0 = f2 i := fun i => by rw [hf2]; rfl
 obtain ⟨f0, hf0⟩ : ∃ f : Nat → UInt8, f = fun i => salt.getD i 0 := ⟨_, rfl⟩
 rw [← hf0] at hsf
 have hx0 : ∀ i, salt.getD i 0 = f0 i := fun i => by rw [hf0]
 have hp1 : ∀ wx : World, Calls Tryz.prog 42 #[.slice none 0 0, .int .i64 4, .int .u64 (s : Int)] wx (Made wx (beb 4 s)) := fun wx => rput_some none 0 0 [] 4 s wx (RdS.nil _) (by omega) (by omega) (by omega) (by omega)
 have hp2 : ∀ wx : World, Calls Tryz.prog 42 #[.slice none 0 0, .int .i64 6, .int .u64 (x : Int)] wx (Made wx (beb 6 x)) := fun wx => rput_some none 0 0 [] 6 x wx (RdS.nil _) (by omega) (by omega) hx (by omega)
 have hwr : IntKind.u64.wrap (s : Int) = (s : Int) := by rw [IntKind.wrap_u64]; omega
 have hZL : (cells Z16).length = 16 := by rw [length_cells, Z16_len]
 have HZL := Lib.hid hZL
 have HSF := Lib.hid hsf
 have HSZ := Lib.hid hsz
 have HFL := Lib.hid hfl
 have HFI := Lib.hid hfi
 have HFC := Lib.hid hfc
 have HS4 := Lib.hid hS4
 have HX0 := Lib.hid hx0
 have HX1 := Lib.hid hx1
 have HX2 := Lib.hid hx2
 have HP1 := Lib.hid hp1
 have HP2 := Lib.hid hp2
 have HS := Lib.hid hs
 clear hZL hsf hsz hfl hfi hfc hS4 hx0 hx1 hx2 hp1 hp2 hF hf1 hSZ hFS hf2 hf0 hs
 have h2' : Blk (((w.alloc (Obj.cells (cells salt).toArray 23)).alloc (Obj.cells (cells Z16).toArray 22)).alloc (Obj.cells (cells Z16).toArray 22)) (w.heap.size + 1 + 1) 22 (fillAt f0 Z16 0) := by rw [fillAt_zero]; exact h2
 have hG := h2.lt
 clear h2
 go_enter Tryz.func58, Tryz.ntmps58
 go_wp2_with (first
  | (go_at_call 42; ((with_reducible refine (HP1.out _).mono ?_); rintro e w1 ⟨v1, rfl, ho1, hb1⟩))
  | (go_at_call 42; ((with_reducible refine (HP2.out w1).mono ?_); rintro e w2 ⟨v2, rfl, ho2, hb2⟩)))
 rw [length_beb] at ho1 ho2
 obtain ⟨g1, c1, rfl, hg1, hgl1, hc1⟩ := own_rows ho1 (by omega)
 obtain ⟨g2, c2, rfl, hg2, hgl2, hc2⟩ := own_rows ho2 (by omega)
 have k1 : ∀ j, j < 4 → w2.cell? ⟨g1, j, none⟩ = some (.int .u8 (((beb 4 s).getD j 0).toNat : Int)) := fun j hj => (hb2.cell (p := ⟨g1, j, none⟩) hgl1).trans (hc1 j hj)
 have j0 := (h0.below hb1 h0.lt).below hb2 (Nat.lt_of_lt_of_le h0.lt hb1.size)
 have j1 := (h1.below hb1 h1.lt).below hb2 (Nat.lt_of_lt_of_le h1.lt hb1.size)
 have j2 := (h2'.below hb1 h2'.lt).below hb2 (Nat.lt_of_lt_of_le h2'.lt hb1.size)
 have jb := (hb0.trans (hb1.mono hb0.size)).trans (hb2.mono (Nat.le_trans hb0.size hb1.size))
 have hs1 := hb1.size
 have hG1 : w.heap.size + 1 + 1 < g1 := by omega
 have hG2 : w.heap.size + 1 + 1 < g2 := by omega
 clear h0 h1 h2' hb0 hb1 hb2 ho1 ho2 hg1 hg2 hgl1 hgl2 hc1 hG hs1 HP1 HP2 hwr
 obtain ⟨G, hGe⟩ : ∃ G, G = w.heap.size + 1 + 1 := ⟨_, rfl⟩
 rw [← hGe] at j2 hG1 hG2 ⊢
 have hwG : w.heap.size + 1 < G := by omega
 clear hGe
 go_loopw [10] (fun vi wr => ∃ i : Nat, i ≤ 14 ∧ vi = .int .i64 i ∧ Blk wr G 22 (fillAt f0 Z16 i) ∧ Blk wr w.heap.size 23 salt ∧ Blk wr (w.heap.size + 1) 22 Z16 ∧ (∀ j, j < 4 → wr.cell? ⟨g1, j, none⟩ = some (.int .u8 (((beb 4 s).getD j 0).toNat : Int))) ∧ (∀ j, j < 6 → wr.cell? ⟨g2, j, none⟩ = some (.int .u8 (((beb 6 x).getD j 0).toNat : Int))) ∧ Below w.heap.size w wr) (fun i _ => 14 - (intOf i).toNat)
 case atStart => exact ⟨0, by omega, rfl, j2, j0, j1, k1, hc2, jb⟩
 case round =>
  clear j2 j0 j1 k1 hc2 jb
  obtain ⟨i, hi, rfl, j2, j0, j1, k1, k2, jb⟩ := hrel
  by_cases hlt : i < 14
  · have hcs := j0.cell (j := i) (by rw [HS.out]; exact hlt)
    rw [HX0.out i] at hcs
    have hcell := j2.cell (j := i) (by rw [fillAt_len _ _ _ (by rw [Z16_len]; omega), Z16_len]; omega)
    have hfr := j2.frozen i
    have hst := j2.set_ i (f0 i)
    rw [fillAt_step _ _ _ (by rw [Z16_len]; omega)] at hst
    have ho := Only.set wr G i (.int .u8 ((f0 i).toNat : Int))
    have q0 := Blk.only j0 ho (by omega)
    have q1 := Blk.only j1 ho (by omega)
    have p1 := cells_only k1 ho (by omega)
    have p2 := cells_only k2 ho (by omega)
    have qb := jb.trans (ho.below (by omega))
    obtain ⟨a, ha⟩ : ∃ a : Int, a = ((f0 i).toNat : Int) := ⟨_, rfl⟩
    obtain ⟨y, hy⟩ : ∃ y : Int, y = (((fillAt f0 Z16 i).getD i 0).toNat : Int) := ⟨_, rfl⟩
    rw [← ha] at hcs hst q0 q1 qb
    simp only [← ha] at p1 p2
    rw [← hy] at hcell
    clear ha hy k1 k2 ho
    have P1 := Lib.hid p1
    have P2 := Lib.hid p2
    clear p1 p2
    go_wp2
    go_roundw
    case rel => exact ⟨i + 1, by omega, by go_num, hst, q0, q1, P1.out, P2.out, qb⟩
    case measure => simp [intOf]; omega
  · obtain rfl : i = 14 := by omega
    rw [HSF.out] at j2
    have j2' : Blk wr G 22 (fillO f1 4 SZ 0) := by rw [fillO_zero]; exact j2
    clear j2
    have K1 := Lib.hid k1
    have K2 := Lib.hid k2
    clear k1 k2
    go_wp2
    simp only [Int.cast_ofNat_Int]
    go_loopw [11] (fun vi wr => ∃ i : Nat, i ≤ 4 ∧ vi = .int .i64 i ∧ Blk wr G 22 (fillO f1 4 SZ i) ∧ Blk wr (w.heap.size + 1) 22 Z16 ∧ (∀ j, j < 4 → wr.cell? ⟨g1, j, none⟩ = some (.int .u8 (((beb 4 s).getD j 0).toNat : Int))) ∧ (∀ j, j < 6 → wr.cell? ⟨g2, j, none⟩ = some (.int .u8 (((beb 6 x).getD j 0).toNat : Int))) ∧ Below w.heap.size w wr) (fun i _ => 4 - (intOf i).toNat)
    case atStart => exact ⟨0, by omega, rfl, j2', j1, K1.out, K2.out, jb⟩
    case round =>
     clear j2' j0 j1 K1 K2 jb
     obtain ⟨i, hi, rfl, j2, j1, k1, k2, jb⟩ := hrel
     by_cases hlt : i < 4
     · obtain ⟨I, hI⟩ : ∃ I, I = 4 + i := ⟨_, rfl⟩
       have hSl : 4 + i < SZ.length := by rw [HSZ.out]; omega
       have hcell := j2.cell (j := 4 + i) (by rw [fillO_len _ _ _ _ (by omega)]; exact hSl)
       rw [fillO_ge _ _ _ _ (by omega)] at hcell
       have hfr := j2.frozen (4 + i)
       have hst := j2.set_ (4 + i) (f1 i)
       rw [fillO_step _ _ _ _ hSl] at hst
       have hsrc := k1 i hlt
       have ho := Only.set wr G (4 + i) (.int .u8 ((f1 i).toNat : Int))
       have q1 := Blk.only j1 ho (by omega)
       have p1 := cells_only k1 ho (by omega)
       have p2 := cells_only k2 ho (by omega)
       have qb := jb.trans (ho.below (by omega))
       have hxr := xr8 (SZ.getD (4 + i) 0) ((beb 4 s).getD i 0)
       rw [HX1.out i] at hxr
       obtain ⟨a, ha⟩ : ∃ a : Int, a = ((f1 i).toNat : Int) := ⟨_, rfl⟩
       obtain ⟨y, hy⟩ : ∃ y : Int, y = ((SZ.getD (4 + i) 0).toNat : Int) := ⟨_, rfl⟩
       obtain ⟨z, hz⟩ : ∃ z : Int, z = (((beb 4 s).getD i 0).toNat : Int) := ⟨_, rfl⟩
       rw [← ha] at hxr hst q1 qb
       simp only [← ha] at p1 p2
       rw [← hy] at hcell hxr
       rw [← hz] at hsrc hxr
       rw [← hI] at hcell hfr hst q1 qb
       simp only [← hI] at p1 p2
       have e1 : IntKind.i64.wrap (4 + (i : Int)) = (I : Int) := by rw [show 4 + (i : Int) = (I : Int) by omega]; exact IntWalk.i64_in _ (by omega)
       have b1 : (I : Int) < 16 := by omega
       have b2 : I < 16 := by omega
       have b3 : (i : Int) < 4 := by omega
       clear ha hy hz hI k1 k2 ho hSl
       have P1 := Lib.hid p1
       have P2 := Lib.hid p2
       clear p1 p2
       go_wp2
       go_still_tail 12, (by kernel_rfl)
       change wpList _ _ _ _ _ wr.drew
       clear e1 hsrc b1 b2
       go_wp2
       go_roundw
       case rel => exact ⟨i + 1, by omega, by go_num, hst, q1, P1.out, P2.out, qb.drew⟩
       case measure => simp [intOf]; omega
     · obtain rfl : i = 4 := by omega
       rw [HS4.out] at j2
       have j2' : Blk wr G 22 (fillO f2 8 FS 0) := by rw [fillO_zero]; exact j2
       clear j2
       have K1 := Lib.hid k1
       have K2 := Lib.hid k2
       clear k1 k2
       go_wp2
       simp only [Int.cast_ofNat_Int]
       go_loopw [12] (fun vi wr => ∃ i : Nat, i ≤ 6 ∧ vi = .int .i64 i ∧ Blk wr G 22 (fillO f2 8 FS i) ∧ Blk wr (w.heap.size + 1) 22 Z16 ∧ (∀ j, j < 4 → wr.cell? ⟨g1, j, none⟩ = some (.int .u8 (((beb 4 s).getD j 0).toNat : Int))) ∧ (∀ j, j < 6 → wr.cell? ⟨g2, j, none⟩ = some (.int .u8 (((beb 6 x).getD j 0).toNat : Int))) ∧ Below w.heap.size w wr) (fun i _ => 6 - (intOf i).toNat)
       case atStart => exact ⟨0, by omega, rfl, j2', j1, K1.out, K2.out, jb⟩
       case round =>
        clear j2' j1 K1 K2 jb
        obtain ⟨i, hi, rfl, j2, j1, k1, k2, jb⟩ := hrel
        by_cases hlt : i < 6
        · obtain ⟨I, hI⟩ : ∃ I, I = 8 + i := ⟨_, rfl⟩
          have hSl : 8 + i < FS.length := by rw [HFL.out]; omega
          have hcell := j2.cell (j := 8 + i) (by rw [fillO_len _ _ _ _ (by omega)]; exact hSl)
          rw [fillO_ge _ _ _ _ (by omega)] at hcell
          have hfr := j2.frozen (8 + i)
          have hst := j2.set_ (8 + i) (f2 i)
          rw [fillO_step _ _ _ _ hSl] at hst
          have hsrc := k2 i hlt
          have ho := Only.set wr G (8 + i) (.int .u8 ((f2 i).toNat : Int))
          have q1 := Blk.only j1 ho (by omega)
          have p1 := cells_only k1 ho (by omega)
          have p2 := cells_only k2 ho (by omega)
          have qb := jb.trans (ho.below (by omega))
          have hxr := xr8 (FS.getD (8 + i) 0) ((beb 6 x).getD i 0)
          rw [HX2.out i] at hxr
          obtain ⟨a, ha⟩ : ∃ a : Int, a = ((f2 i).toNat : Int) := ⟨_, rfl⟩
          obtain ⟨y, hy⟩ : ∃ y : Int, y = ((FS.getD (8 + i) 0).toNat : Int) := ⟨_, rfl⟩
          obtain ⟨z, hz⟩ : ∃ z : Int, z = (((beb 6 x).getD i 0).toNat : Int) := ⟨_, rfl⟩
          rw [← ha] at hxr hst q1 qb
          simp only [← ha] at p1 p2
          rw [← hy] at hcell hxr
          rw [← hz] at hsrc hxr
          rw [← hI] at hcell hfr hst q1 qb
          simp only [← hI] at p1 p2
          have e1 : IntKind.i64.wrap (8 + (i : Int)) = (I : Int) := by rw [show 8 + (i : Int) = (I : Int) by omega]; exact IntWalk.i64_in _ (by omega)
          have b1 : (I : Int) < 16 := by omega
          have b2 : I < 16 := by omega
          have b3 : (i : Int) < 6 := by omega
          clear ha hy hz hI k1 k2 ho hSl
          have P1 := Lib.hid p1
          have P2 := Lib.hid p2
          clear p1 p2
          go_wp2
          go_still_tail 12, (by kernel_rfl)
          change wpList _ _ _ _ _ wr.drew
          clear e1 hsrc b1 b2
          go_wp2
          go_roundw
          case rel => exact ⟨i + 1, by omega, by go_num, hst, q1, P1.out, P2.out, qb.drew⟩
          case measure => simp [intOf]; omega
        · obtain rfl : i = 6 := by omega
          rw [HFI.out] at j2
          clear k1 k2
          go_wp2_with (first
           | (with_reducible refine wpList_ld rfl 22 (.tmp 7) rfl G 0 rfl (cells F) (j2.v.range 0 _ (by simp)) (row16 HFC.out) ?_)
           | ((with_reducible refine wpList_st rfl 22 (.tmp 6) (.tmp 59) rfl (w.heap.size + 1) 0 (cells F) rfl rfl 22 _ j1.v (by rw [HFC.out, HZL.out]; omega) (row16 HFC.out) (cells_one _) ?_); intro w7 hB7 ho7; rw [splice_all _ _ (by rw [HFC.out, HZL.out])] at hB7))
          exact ret_row (by rfl) (by rfl) hB7 (row16 HFC.out) (by rfl) ⟨rfl, jb.trans (ho7.below (by omega))⟩
theorem own_lower {w : World} {base base' : Nat} {e : TypeId} {v : Value} {n : Nat} {xs : List Value} (h : w.ownsRow base e 1 v n xs) (hb : base' ≤ base) : w.ownsRow base' e 1 v n xs :=
 ⟨h.1, h.2.imp id fun ⟨g, cap, cur, h1, h2, h3⟩ => ⟨g, cap, cur, h1, Nat.le_trans hb h2, h3⟩⟩
structure REnv (w1 : World) (G : Nat) (N : List UInt8) (v : Value) (i : Nat) (out : List UInt8) (wr : World) : Prop where
 b : Below G w1 wr
 n : Blk wr G 22 N
 o : wr.ownsRow (G + 1) 5 1 v i (cells out)
theorem REnv.below {w1 : World} {G : Nat} {N : List UInt8} {v : Value} {i : Nat} {out : List UInt8} {wr w' : World} (h : REnv w1 G N v i out wr) (hb : Below wr.heap.size wr w') : REnv w1 G N v i out w' :=
 ⟨h.b.trans (hb.mono (Nat.le_of_lt h.n.lt)), h.n.below hb h.n.lt, own_below h.o hb⟩
theorem REnv.put {w1 : World} {G : Nat} {N X : List UInt8} {v : Value} {i : Nat} {out : List UInt8} {wr w' : World} (h : REnv w1 G N v i out wr) (ho : Only G wr w') (hX : Blk w' G 22 X) : REnv w1 G X v i out w' :=
 ⟨h.b.trans (ho.below (Nat.le_refl _)), hX, h.o.kept (row := some G) ho.grown (by
  rcases hv : v.ownBlock with _ | q
  · exact .inl rfl
  · refine .inr fun e => ?_
    have := (h.o.lt q hv).1
    injection e with e
    omega)⟩

set_option maxRecDepth 100000 in
set_option maxHeartbeats 4000000 in
theorem rcipher_any (key c : List UInt8) (A : Option Addr) (n cap : Nat) (bs : List UInt8) (w : World) (hk : key.length = 16) (hc : c.length = 16) (hr : RdS w A n cap bs) (hn : n ≤ 4096) :
 Calls Tryz.prog 57 #[.agg (cells key).toArray, .agg (cells c).toArray, .slice A n cap] w fun e w' => ∃ v, e = .returned v ∧ w'.ownsRow w.heap.size 5 1 v n (cells (cph key c bs)) ∧ Below w.heap.size w w' := by
 have hz := zero16
 obtain ⟨hb0, h0, h1⟩ := boxes2 w key c
 have hl := hr.len
 have HKL : Hid ((cells key).length = 16) := Lib.hid (by rw [length_cells, hk])
 have HCL : Hid ((cells c).length = 16) := Lib.hid (by rw [length_cells, hc])
 have hZL : (cells Z16).length = 16 := by rw [length_cells, Z16_len]
 have HZL := Lib.hid hZL
 have hrn := fun wx => rnewS_any key wx hk
 have HRN := Lib.hid hrn
 have HC := Lib.hid hc
 have HL := Lib.hid hl
 clear hk hc hZL hrn hl
 go_enter Tryz.func57, Tryz.ntmps57
 go_wp2_with (first
  | (with_reducible refine wpList_ld rfl 22 (.tmp 3) rfl w.heap.size 0 rfl (cells key) (h0.v.range 0 _ (by simp)) (row16 HKL.out) ?_)
  | (go_at_call 81; ((with_reducible refine (HRN.out _).mono ?_); rintro e w1 ⟨p, gB, gW, cW, rfl, hC1, hb1⟩)))
 have k1 := h1.below hb1 h1.lt
 have kl := h1.lt
 have hr1 := (hr.below hb0).below hb1
 have hb1w := hb0.trans (hb1.mono hb0.size)
 clear h0 h1 hb0 hb1 HRN
 obtain ⟨G, hG⟩ : ∃ G, G = w1.heap.size := ⟨_, rfl⟩
 have hE0 : REnv w1 G Z16 (.slice none 0 0) 0 ((cph key c bs).take 0) (w1.alloc (.cells (cells Z16).toArray 22)) := by
  rw [hG]
  exact ⟨(Below.refl _ _).alloc (Nat.le_refl _) _, Blk.new _ _ _, World.ownsRow_nil _ _ _ _⟩
 have HG := Lib.hid hG
 have hwG : w.heap.size + 1 < G := by rw [hG]; exact k1.lt
 rw [← hG]
 clear hG
 have HN0 : Hid (Z16.length = 16 ∧ (0 % 16 ≠ 0 → Z16 = enc (kall key) (plusC c (0 / 16)))) := Lib.hid ⟨Z16_len, fun h => absurd rfl h⟩
 go_loopw [8, 10] (fun vo vi wr => ∃ (i : Nat) (A' : Option Addr) (c' : Nat) (N : List UInt8), i ≤ n ∧ vi = .int .i64 i ∧ vo = .slice A' i c' ∧ Hid (N.length = 16 ∧ (i % 16 ≠ 0 → N = enc (kall key) (plusC c (i / 16)))) ∧ REnv w1 G N (.slice A' i c') i ((cph key c bs).take i) wr) (fun _ i _ => n - (intOf i).toNat)
 case atStart => exact ⟨0, none, 0, Z16, by omega, rfl, rfl, HN0, hE0⟩
 case round =>
  clear hE0 HN0
  obtain ⟨i, A', c', N, hi, rfl, rfl, HN, hE⟩ := hrel
  by_cases hlt : i < n
  · have hCw := hC1.below (HG.out ▸ hE.b)
    have kw := k1.below hE.b (by omega)
    have hb := hb1w.trans (hE.b.mono (by omega))
    obtain ⟨L, hL⟩ : ∃ L, L = i % 16 := ⟨_, rfl⟩
    obtain ⟨J, hJ⟩ : ∃ J, J = i / 16 := ⟨_, rfl⟩
    rw [← hL, ← hJ] at HN
    have e1 : (i : Int).tmod 16 = (L : Int) := by rw [Int.tmod_eq_emod_of_nonneg (by omega)]; omega
    have e2 : IntKind.i64.wrap (L : Int) = (L : Int) := IntWalk.i64_in _ (by omega)
    have e3 : (i : Int).tdiv 16 = (J : Int) := by rw [Int.tdiv_eq_ediv_of_nonneg (by omega)]; omega
    have e4 : IntKind.i64.wrap (J : Int) = (J : Int) := IntWalk.i64_in _ (by omega)
    have hli : (i : Int) < (n : Int) := by omega
    have hpl := fun wx => rplus_any c J wx HC.out (by omega)
    have hbk := fun wx (hx : RCiph wx p gB gW cW key) => rblock_any p gB gW cW key (plusC c J) wx (plusC_len _ _) hx
    obtain ⟨X, hX⟩ : ∃ X, X = enc (kall key) (plusC c J) := ⟨_, rfl⟩
    have hXl : X.length = 16 := by rw [hX]; exact enc_len _ _
    rw [← hX] at HN
    simp only [← hX] at hbk
    have hNL : (cells N).length = 16 := by rw [length_cells, HN.out.1]
    have hXL : (cells X).length = 16 := by rw [length_cells, hXl]
    have HNL := Lib.hid hNL
    have HXL := Lib.hid hXL
    have HXl := Lib.hid hXl
    have HX := Lib.hid hX
    have HPL := Lib.hid hpl
    have HBK := Lib.hid hbk
    have HLe := Lib.hid hL
    have HJe := Lib.hid hJ
    clear hpl hbk hX hXl hNL hXL hL hJ
    go_upto_if 21 with (fail)
    go_cut [] (fun wx => REnv w1 G X (.slice A' i c') i ((cph key c bs).take i) wx)
    case first =>
     by_cases h0 : L = 0
     · subst h0
       go_wp2_with (first
        | (with_reducible refine wpList_ld rfl 22 (.tmp 4) rfl (w.heap.size + 1) 0 rfl (cells c) (kw.v.range 0 _ (by simp)) (row16 HCL.out) ?_)
        | (go_at_call 83; ((with_reducible refine (HPL.out _).mono ?_); rintro e w3 ⟨rfl, hb3⟩; have hC3 := hCw.below hb3; have hE3 := hE.below hb3))
        | (go_at_call 82; ((with_reducible refine (HBK.out w3 hC3).mono ?_); rintro e w4 ⟨rfl, hb4⟩; have hE4 := hE3.below hb4; have hN4 := hE4.n))
        | ((with_reducible refine wpList_st rfl 22 (.tmp 9) (.tmp 27) rfl G 0 (cells X) rfl rfl 22 _ hN4.v (by rw [HXL.out, HNL.out]; omega) (row16 HXL.out) (cells_one _) ?_); intro w5 hB5 ho5; rw [splice_all _ _ (by rw [HXL.out, HNL.out])] at hB5))
       go_meet
       exact hE4.put ho5 hB5
     · have hNX := HN.out.2 h0
       rw [hNX] at hE
       have hLi : ((L : Int) = 0) = False := by simp; omega
       go_wp2
       go_meet
       exact hE
    case rest =>
     have hE := hcut
     clear hcut
     have hrw := hr1.below (HG.out ▸ hE.b)
     have hcb : ∃ ad, A = some ad ∧ ad.block < G ∧ wc.cell? (ad.add i) = some (.int .u8 ((bs.getD i 0).toNat : Int)) := by
      obtain ⟨b, off, hA, hbl, hcc⟩ := hr1.2.2.2.2 (by omega)
      obtain ⟨b2, off2, hA2, hbl2, hcc2⟩ := hrw.2.2.2.2 (by omega)
      rw [hA] at hA2
      injection hA2 with hA2
      injection hA2 with q1 q2
      subst q1; subst q2
      exact ⟨_, hA, by rw [HG.out]; exact hbl, by rw [add_lit]; exact hcc2 i hlt⟩
     obtain ⟨ad, rfl, hadG, hcb⟩ := hcb
     have hL16 : L < 16 := by have := HLe.out; omega
     have hLi : (L : Int) < 16 := by omega
     have hcn := hE.n.cell (j := L) (by rw [HXl.out]; exact hL16)
     have hV : bits BinOp.xor IntKind.u8 ((bs.getD i 0).toNat : Int) ((X.getD L 0).toNat : Int) = ((cphB key c bs i).toNat : Int) := by
      rw [xr8, cphB, ksB, ← HJe.out, ← HLe.out, ← HX.out]
     have hstep := cph_step key c bs i (by rw [HL.out]; exact hlt)
     obtain ⟨V, hVe⟩ : ∃ V, V = cphB key c bs i := ⟨_, rfl⟩
     obtain ⟨x, hx⟩ : ∃ x : Int, x = ((bs.getD i 0).toNat : Int) := ⟨_, rfl⟩
     obtain ⟨y, hy⟩ : ∃ y : Int, y = ((X.getD L 0).toNat : Int) := ⟨_, rfl⟩
     rw [← hVe] at hV hstep
     obtain ⟨v, hv⟩ : ∃ v : Int, v = (V.toNat : Int) := ⟨_, rfl⟩
     rw [← hx, ← hy, ← hv] at hV
     rw [← hx] at hcb
     rw [← hy] at hcn
     have HV := Lib.hid hv
     have HST := Lib.hid hstep
     have hab : (ad.add i).block < G := by rw [show (ad.add i).block = ad.block by unfold Addr.add; split <;> rfl]; exact hadG
     clear hadG
     clear hVe hx hy hv hstep hrw kw hb hCw
     go_wp2
     refine wp_region_noPanic ?_
     refine wp_region_held (S := fun wx => wx.cell? (ad.add i) = some (.int .u8 x) ∧ wx.cell? ⟨G, L, none⟩ = some (.int .u8 y)) (by kernel_rfl) ?_
     change wpAnyH _ _ _ _ _ _ _ _ (World.drew _)
     have hED := hE.below ((Below.refl _ _).drew)
     have hS : (wc.drew).cell? (ad.add i) = some (.int .u8 x) ∧ (wc.drew).cell? ⟨G, L, none⟩ = some (.int .u8 y) := ⟨hcb, hcn⟩
     clear hE hcb hcn
     generalize wc.drew = wq at *
     have hGq := hED.n.lt
     refine wpAnyH_take (i := 0) (v := ?_) rfl (by kernel_rfl) (by kernel_rfl) (by kernel_rfl) (fun _ _ _ h => h) (Or.inl ⟨by rfl, ?_⟩) hS ?_
     case refine_2 => (intro wz hz; go_simp; with_reducible rfl)
     simp only [Act.put, xgT, xgZ, xsT, xsS, xsZ]
     refine wpAnyH_take (i := 1) (v := ?_) rfl (by kernel_rfl) (by kernel_rfl) (by kernel_rfl) (fun _ _ _ h => h) (Or.inl ⟨by rfl, ?_⟩) hS ?_
     case refine_2 => (intro wz hz; go_simp; with_reducible rfl)
     simp only [Act.put, xgT, xgS, xgZ, xsT, xsS, xsZ]
     refine wpAnyH_take (i := 2) (v := ?_) rfl (by kernel_rfl) (by kernel_rfl) (by kernel_rfl) (fun _ _ _ h => h) (Or.inl ⟨by rfl, ?_⟩) hS ?_
     case refine_2 => (intro wz hz; go_simp; with_reducible rfl)
     simp only [Act.put, xgT, xgS, xgZ, xsT, xsS, xsZ]
     refine wpAnyH_take (i := 3) (v := ?_) rfl (by kernel_rfl) (by kernel_rfl) (by kernel_rfl) (fun _ _ _ h => h) (Or.inl ⟨by rfl, ?_⟩) hS ?_
     case refine_2 => (intro wz hz; go_simp; with_reducible rfl)
     simp only [Act.put, xgT, xgS, xgZ, xsT, xsS, xsZ]
     refine wpAnyH_take (i := 4) (v := ?_) rfl (by kernel_rfl) (by kernel_rfl) (by kernel_rfl) (fun _ _ _ h => h) (Or.inl ⟨by rfl, ?_⟩) hS ?_
     case refine_2 => (intro wz hz; obtain ⟨z1, z2⟩ := hz; go_simp; with_reducible rfl)
     simp only [Act.put, xgT, xgS, xgZ, xsT, xsS, xsZ]
     refine wpAnyH_take (i := 5) (v := ?_) rfl (by kernel_rfl) (by kernel_rfl) (by kernel_rfl) (fun _ _ _ h => h) (Or.inl ⟨by rfl, ?_⟩) hS ?_
     case refine_2 => (intro wz hz; go_simp; with_reducible rfl)
     simp only [Act.put, xgT, xgS, xgZ, xsT, xsS, xsZ]
     refine wpAnyH_take (i := 6) (v := ?_) rfl (by kernel_rfl) (by kernel_rfl) (by kernel_rfl) (fun _ _ _ h => h) (Or.inl ⟨by rfl, ?_⟩) hS ?_
     case refine_2 => (intro wz hz; go_simp; with_reducible rfl)
     simp only [Act.put, xgT, xgS, xgZ, xsT, xsS, xsZ]
     refine wpAnyH_take (i := 7) (v := ?_) rfl (by kernel_rfl) (by kernel_rfl) (by kernel_rfl) (fun _ _ _ h => h) (Or.inl ⟨by rfl, ?_⟩) hS ?_
     case refine_2 => (intro wz hz; go_simp; with_reducible rfl)
     simp only [Act.put, xgT, xgS, xgZ, xsT, xsS, xsZ]
     refine wpAnyH_take (i := 8) (v := ?_) rfl (by kernel_rfl) (by kernel_rfl) (by kernel_rfl) (fun _ _ _ h => h) (Or.inl ⟨by rfl, ?_⟩) hS ?_
     case refine_2 => (intro wz hz; obtain ⟨z1, z2⟩ := hz; go_simp; with_reducible rfl)
     simp only [Act.put, xgT, xgS, xgZ, xsT, xsS, xsZ]
     refine wpAnyH_take (i := 9) (v := ?_) rfl (by kernel_rfl) (by kernel_rfl) (by kernel_rfl) (fun _ _ _ h => h) (Or.inl ⟨by rfl, ?_⟩) hS ?_
     case refine_2 => (intro wz hz; go_simp; with_reducible rfl)
     simp only [Act.put, xgT, xgS, xgZ, xsT, xsS, xsZ]
     refine anyH_one (i := 10) (by kernel_rfl) rfl rfl (fun H hH => ?_)
     simp only [xgT, xgS, xgZ]
     go_simp
     have hEa := hED.below ((Below.refl _ _).alloc (Nat.le_refl _) (.cells #[.int .u8 v] 5))
     have hSa : (wq.alloc (.cells #[.int .u8 v] 5)).cell? (ad.add i) = some (.int .u8 x) ∧ (wq.alloc (.cells #[.int .u8 v] 5)).cell? ⟨G, L, none⟩ = some (.int .u8 y) := by
      have hbq := (Below.refl wq.heap.size wq).alloc (Nat.le_refl _) (.cells #[.int .u8 v] 5)
      exact ⟨(hbq.cell (p := ad.add i) (by omega)).trans hS.1, (hbq.cell (p := ⟨G, L, none⟩) hGq).trans hS.2⟩
     refine hH _ _ hSa ?_
     clear hH H
     refine anyH_one (i := 11) (by kernel_rfl) rfl rfl (fun H hH => ?_)
     simp only [xgT, xgS, xgZ]
     refine wp_append_rd _ (.tmp 28) (.tmp 38) rfl Tryz.underlying35 u8_inf (G + 1) (.slice A' i c') i ((cph key c bs).take i) (by rfl) hEa.o (some ⟨wq.heap.size, 0, none⟩) 1 1 [V] (by rfl) (rd_one8 wq V v HV.out _) (by omega) (by have := hEa.n.lt; omega) ?_
     intro v2 w2 hown2 hg2 hat2
     have hltb := hEa.o.lt
     have hne : ∀ q, Value.ownBlock (.slice A' i c') = some q → G + 1 ≤ q := fun q hq => (hltb q hq).1
     have hb2 : Below G w1 w2 := hEa.b.grown hg2 (Nat.le_of_lt hEa.n.lt) (fun q hq => by have := hne q hq; omega)
     have hn2 := hEa.n.grown hg2 (fun e => by have := hne G e.symm; omega)
     have hGa := hEa.n.lt
     have hS2 : w2.cell? (ad.add i) = some (.int .u8 x) ∧ w2.cell? ⟨G, L, none⟩ = some (.int .u8 y) :=
      ⟨(hg2.cell_far (ad.add i) (by omega) (fun e => by have := hne _ e.symm; omega)).trans hSa.1, (hg2.cell_far ⟨G, L, none⟩ hGa (fun e => by have := hne _ e.symm; simp only at this; omega)).trans hSa.2⟩
     obtain ⟨A3, c3, rfl⟩ := own_form hown2
     refine hH _ _ hS2 ?_
     clear hH H
     rw [← HST.out] at hown2
     refine wpAnyH_take (i := 12) (v := ?_) rfl (by kernel_rfl) (by kernel_rfl) (by kernel_rfl) (fun _ _ _ h => h) (Or.inl ⟨by rfl, ?_⟩) hS2 ?_
     case refine_2 => (intro wz hz; go_simp; with_reducible rfl)
     simp only [Act.put, xgT, xgS, xgZ, xsT, xsS, xsZ]
     refine wpAnyH_done (by kernel_rfl) ?_ _
     refine NoPanic.normal ?_
     clear hS2 hSa hEa hED hS hg2 hat2 hltb hne
     go_wp2
     go_roundw
     case rel => exact ⟨i + 1, A3, c3, X, by omega, by go_num, by go_num, Lib.hid ⟨HXl.out, fun hne => by rw [HX.out, HJe.out]; congr 2; omega⟩, ⟨hb2, hn2, hown2⟩⟩
     case measure => simp [intOf]; omega
  · obtain rfl : i = n := by omega
    have ho := hE.o
    have hb := hb1w.trans (hE.b.mono (by omega))
    rw [List.take_of_length_le (by rw [cph_len, HL.out]; omega)] at ho
    go_wp2
    go_ret
    exact ⟨_, rfl, own_lower ho (by omega), hb⟩
end Go.Proofs.YtmkeioeodlidgaaGreatDoor

namespace Go.Proofs.YtmkeioeodlidgaaGreatDoor
set_option linter.unusedVariables false

structure Vp where
 st : Bool
 part : Nat
 has : Bool
 wide : Bool
 pic : Nat
 key : Bool
 head : Nat
def vC (v : Vp) : List Value := [.bool v.st, .int .u8 (v.part : Int), .bool v.has, .bool v.wide, .int .u16 (v.pic : Int), .bool v.key, .int .i64 (v.head : Int)]
def noV : Vp := ⟨false, 0, false, false, 0, false, 0⟩
def bV (bs : List UInt8) (i : Nat) : Nat := (bs.getD i 0).toNat
def secV (bs : List UInt8) : Nat := if 128 ≤ bV bs 0 then bV bs 1 else 0
def fstV (bs : List UInt8) : Nat := if 128 ≤ bV bs 0 then 2 else 1
def hasV (bs : List UInt8) : Bool := decide (128 ≤ secV bs)
def wideV (bs : List UInt8) : Bool := hasV bs && decide (128 ≤ bV bs 2)
def picV (bs : List UInt8) : Nat := if wideV bs then (bV bs 2 - 128) * 256 + bV bs 3 else if hasV bs then bV bs 2 else 0
def at1V (bs : List UInt8) : Nat := fstV bs + (if hasV bs then (if wideV bs then 2 else 1) else 0)
def at2V (bs : List UInt8) : Nat := at1V bs + (if secV bs / 64 % 2 = 1 then 1 else 0)
def at3V (bs : List UInt8) : Nat := at2V bs + (if secV bs / 32 % 2 = 1 ∨ secV bs / 16 % 2 = 1 then 1 else 0)
def keyV (bs : List UInt8) : Bool := decide ((bV bs 0 / 16 % 2 = 1 ∧ bV bs 0 % 8 = 0) ∧ at3V bs < bs.length ∧ bV bs (at3V bs) % 2 = 0)
def whyV (bs : List UInt8) : Nat :=
 if bs.length < 1 then 2
 else if bV bs 0 / 64 % 2 = 1 ∨ bV bs 0 / 8 % 2 = 1 then 3
 else if 128 ≤ bV bs 0 ∧ bs.length < 2 then 2
 else if 0 < secV bs % 16 then 3
 else if hasV bs = true ∧ bs.length ≤ 2 then 2
 else if wideV bs = true ∧ bs.length ≤ 3 then 2
 else if bs.length < at3V bs then 2
 else 0
def vpV (bs : List UInt8) : Vp := if whyV bs = 0 then ⟨decide (bV bs 0 / 16 % 2 = 1), bV bs 0 % 8, hasV bs, wideV bs, picV bs, keyV bs, at3V bs⟩ else noV
def plcV (bs : List UInt8) : Nat := if whyV bs = 0 ∧ hasV bs = true then 2 else 0
def G1 (bs : List UInt8) : Prop := ¬ bs.length < 1 ∧ ¬ (bV bs 0 / 64 % 2 = 1 ∨ bV bs 0 / 8 % 2 = 1)
def G2 (bs : List UInt8) : Prop := G1 bs ∧ ¬ (128 ≤ bV bs 0 ∧ bs.length < 2) ∧ ¬ 0 < secV bs % 16
def G3 (bs : List UInt8) : Prop := G2 bs ∧ ¬ (hasV bs = true ∧ bs.length ≤ 2) ∧ ¬ (wideV bs = true ∧ bs.length ≤ 3)
def trnV (bs : List UInt8) (p : Nat) : List UInt8 := if wideV bs then (bs.set 2 (UInt8.ofNat (p / 256 % 128 + 128))).set 3 (UInt8.ofNat (p % 256)) else bs.set 2 (UInt8.ofNat (p % 128))
end Go.Proofs.YtmkeioeodlidgaaGreatDoor

namespace Go.Proofs.YtmkeioeodlidgaaGreatDoor
open Go.RowKit
set_option linter.unusedVariables false

def R13 (bs : List UInt8) (w : World) (e : Ending) (w' : World) : Prop := e = .returned (.tuple #[.agg (vC (vpV bs)).toArray, .int .i64 (plcV bs : Int), .int .i64 (whyV bs : Int)]) ∧ Below w.heap.size w w'
theorem R13.no {bs : List UInt8} {w w' : World} {q : Nat} (h : whyV bs = q) (h0 : ¬ q = 0) (hb : Below w.heap.size w w') : R13 bs w (.returned (.tuple #[.agg #[.bool false, .int .u8 0, .bool false, .bool false, .int .u16 0, .bool false, .int .i64 0], .int .i64 0, .int .i64 (q : Int)])) w' := by
 refine ⟨?_, hb⟩
 unfold vpV plcV
 rw [h, if_neg h0, if_neg (fun h => h0 h.1)]
 rfl
end Go.Proofs.YtmkeioeodlidgaaGreatDoor
