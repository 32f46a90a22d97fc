/- Several texts in one: plain words and walks. No statement is proved here. -/
import Derived.Test.YtheefckohnaceaaGreatDoorZM3
import Derived.Test.YtheefckohnaceaaGreatDoorZMacRef
import Derived.Test.YtheefckohnaceaaGreatDoorProg
import Derived.Test.YtheefckohnaceaaGreatDoorZBytes
import Derived.Test.YtheefckohnaceaaGreatDoorZM1
import Derived.KernelRfl
import Derived.Lib.Hide
import Derived.IntWalk
import Derived.Test.YtheefckohnaceaaGreatDoorZM0
import Derived.StillTailTactics
import Derived.Laws.Cover3
import Derived.BigQuiet
namespace Go.Proofs.YtheefckohnaceaaGreatDoor
open Go.RowKit
set_option linter.unusedVariables false

def Wy.ks (s : Wy) : List UInt8 := trio s.key s.auth s.salt
theorem Wy.ks_len {s : Wy} (h : s.fit) : s.ks.length = 50 := by
 obtain ⟨h1, h2, h3, _⟩ := h
 simp [Wy.ks, trio, h1, h2, h3]
theorem ks_auth {s : Wy} (h : s.fit) {i : Nat} (hi : i < 20) : s.ks.getD (16 + i) 0 = s.auth.getD i 0 := by
 obtain ⟨h1, h2, h3, _⟩ := h
 unfold Wy.ks trio
 simp only [List.getD]
 rw [List.getElem?_append_right (by omega), List.getElem?_append_left (by omega), h1, Nat.add_sub_cancel_left]
theorem ks_key {s : Wy} (h : s.fit) {i : Nat} (hi : i < 16) : s.ks.getD i 0 = s.key.getD i 0 := by
 obtain ⟨h1, h2, h3, _⟩ := h
 unfold Wy.ks trio
 simp only [List.getD]
 rw [List.getElem?_append_left (by omega)]
theorem ks_salt {s : Wy} (h : s.fit) {i : Nat} (hi : i < 14) : s.ks.getD (36 + i) 0 = s.salt.getD i 0 := by
 obtain ⟨h1, h2, h3, _⟩ := h
 unfold Wy.ks trio
 simp only [List.getD]
 rw [List.getElem?_append_right (by omega), List.getElem?_append_right (by omega), h1, h2, show 36 + i - 16 - 20 = i by omega]
theorem rd_auth {s : Wy} (h : s.fit) {W : World} {g o : Nat} {t : TypeId} {cs : List Value} (hB : BlkV W g t cs) (hc : ∀ i, i < 50 → cs[o + i]? = (cells s.ks)[i]?) : RdS W (some ⟨g, o + 16, none⟩) 20 20 s.auth := by
 refine ⟨h.2.1, Nat.le_refl _, by simp [maxLen], fun h0 => (nomatch h0), fun _ => ⟨g, o + 16, rfl, hB.lt, fun j hj => ?_⟩⟩
 rw [hB.cell, Nat.add_assoc, hc (16 + j) (by omega), cells_at (by rw [Wy.ks_len h]; omega), ks_auth h hj]
theorem u8_and_one (a : Nat) (ha : a < 256) : bits BinOp.and IntKind.u8 (a : Int) 1 = ((a % 2 : Nat) : Int) := by
 have h := u8_and_nat a 1 ha (by omega)
 rw [Nat.and_one_is_mod] at h
 exact h
theorem twice_any (x : UInt8) (xi : Int) (w : World) (hx : xi = (x.toNat : Int)) : Calls Tryz.prog 137 #[.int .u8 xi] w fun e w' => e = .returned (.int .u8 ((dbl x).toNat : Int)) ∧ w = w' := by
 have hl := x.toNat_lt
 rw [dbl_nat]
 obtain ⟨n, hn⟩ : ∃ n, n = x.toNat := ⟨_, rfl⟩
 rw [← hn] at hl hx ⊢
 clear hn
 subst hx
 have h1 := u8_xor_nat (n * 2 % 256) (n / 128 * 27) (by omega) (by omega)
 have hb : bits BinOp.xor IntKind.u8 ((n : Int) * 2 % 256) ((n : Int) / 128 * 27) = (dblN n : Nat) := by
  unfold dblN; rw [← h1]; simp
 have H := Lib.hid hb
 clear h1 hb
 have hi : (n : Int) ≤ 255 := by omega
 go_enter Tryz.func137, Tryz.ntmps137
 go_wp2
 rw [H.out]
 go_ret
 exact ⟨rfl, rfl⟩
theorem rotl8_4 (x : Nat) (w : World) (hx : x < 256) : Calls Tryz.prog 141 #[.int .u8 x, .int .i64 4] w fun e w' => e = .returned (.int .u8 (rot8 4 x : Nat)) ∧ w = w' := by
 have h := u8_or_nat (x * 2 ^ 4 % 256) (x / 2 ^ (8 - 4)) (Nat.mod_lt _ (by omega)) (by simp; omega)
 have hb : bits BinOp.or IntKind.u8 ((x : Int) * 16 % 256) ((x : Int) / 16) = (rot8 4 x : Nat) := by
  unfold rot8; rw [← h]; simp
 have hi : (x : Int) ≤ 255 := by omega
 have hk : bits BinOp.and IntKind.u64 4 7 = 4 := by decide
 have HB := Lib.hid hb
 clear h hb
 go_enter Tryz.func141, Tryz.ntmps141
 go_wp2
 rw [HB.out]
 go_ret
 exact ⟨rfl, rfl⟩
theorem rotl8_3 (x : Nat) (w : World) (hx : x < 256) : Calls Tryz.prog 141 #[.int .u8 x, .int .i64 3] w fun e w' => e = .returned (.int .u8 (rot8 3 x : Nat)) ∧ w = w' := by
 have h := u8_or_nat (x * 2 ^ 3 % 256) (x / 2 ^ (8 - 3)) (Nat.mod_lt _ (by omega)) (by simp; omega)
 have hb : bits BinOp.or IntKind.u8 ((x : Int) * 8 % 256) ((x : Int) / 32) = (rot8 3 x : Nat) := by
  unfold rot8; rw [← h]; simp
 have hi : (x : Int) ≤ 255 := by omega
 have hk : bits BinOp.and IntKind.u64 3 7 = 3 := by decide
 have HB := Lib.hid hb
 clear h hb
 go_enter Tryz.func141, Tryz.ntmps141
 go_wp2
 rw [HB.out]
 go_ret
 exact ⟨rfl, rfl⟩
theorem rotl8_2 (x : Nat) (w : World) (hx : x < 256) : Calls Tryz.prog 141 #[.int .u8 x, .int .i64 2] w fun e w' => e = .returned (.int .u8 (rot8 2 x : Nat)) ∧ w = w' := by
 have h := u8_or_nat (x * 2 ^ 2 % 256) (x / 2 ^ (8 - 2)) (Nat.mod_lt _ (by omega)) (by simp; omega)
 have hb : bits BinOp.or IntKind.u8 ((x : Int) * 4 % 256) ((x : Int) / 64) = (rot8 2 x : Nat) := by
  unfold rot8; rw [← h]; simp
 have hi : (x : Int) ≤ 255 := by omega
 have hk : bits BinOp.and IntKind.u64 2 7 = 2 := by decide
 have HB := Lib.hid hb
 clear h hb
 go_enter Tryz.func141, Tryz.ntmps141
 go_wp2
 rw [HB.out]
 go_ret
 exact ⟨rfl, rfl⟩
theorem rotl8_1 (x : Nat) (w : World) (hx : x < 256) : Calls Tryz.prog 141 #[.int .u8 x, .int .i64 1] w fun e w' => e = .returned (.int .u8 (rot8 1 x : Nat)) ∧ w = w' := by
 have h := u8_or_nat (x * 2 ^ 1 % 256) (x / 2 ^ (8 - 1)) (Nat.mod_lt _ (by omega)) (by simp; omega)
 have hb : bits BinOp.or IntKind.u8 ((x : Int) * 2 % 256) ((x : Int) / 128) = (rot8 1 x : Nat) := by
  unfold rot8; rw [← h]; simp
 have hi : (x : Int) ≤ 255 := by omega
 have hk : bits BinOp.and IntKind.u64 1 7 = 1 := by decide
 have HB := Lib.hid hb
 clear h hb
 go_enter Tryz.func141, Tryz.ntmps141
 go_wp2
 rw [HB.out]
 go_ret
 exact ⟨rfl, rfl⟩
theorem mixed_nat (n : Nat) (w : World) (hl : n < 256) : Calls Tryz.prog 134 #[.int .u8 n] w fun e w' => e = .returned (.int .u8 (mixN n : Nat)) ∧ w = w' := by
 have h4 := rotl8_4 n w hl
 have h3 := rotl8_3 n w hl
 have h2 := rotl8_2 n w hl
 have h1 := rotl8_1 n w hl
 have l4 := rot8_lt 4 n (by omega) hl
 have l3 := rot8_lt 3 n (by omega) hl
 have l2 := rot8_lt 2 n (by omega) hl
 have l1 := rot8_lt 1 n (by omega) hl
 have hm : mixN n = n ^^^ rot8 4 n ^^^ rot8 3 n ^^^ rot8 2 n ^^^ rot8 1 n ^^^ 99 := rfl
 obtain ⟨a, ha⟩ : ∃ a, a = rot8 4 n := ⟨_, rfl⟩
 obtain ⟨b, hb⟩ : ∃ a, a = rot8 3 n := ⟨_, rfl⟩
 obtain ⟨c, hc⟩ : ∃ a, a = rot8 2 n := ⟨_, rfl⟩
 obtain ⟨d, hd⟩ : ∃ a, a = rot8 1 n := ⟨_, rfl⟩
 rw [← ha] at h4 l4 hm
 rw [← hb] at h3 l3 hm
 rw [← hc] at h2 l2 hm
 rw [← hd] at h1 l1 hm
 clear ha hb hc hd
 have x8 : ∀ {a b : Nat}, a < 256 → b < 256 → a ^^^ b < 256 := fun ha hb => Nat.xor_lt_two_pow (n := 8) ha hb
 have hx : bits BinOp.xor IntKind.u8 (bits BinOp.xor IntKind.u8 (bits BinOp.xor IntKind.u8 (bits BinOp.xor IntKind.u8 (bits BinOp.xor IntKind.u8 (n : Int) (a : Int)) (b : Int)) (c : Int)) (d : Int)) 99 = (mixN n : Nat) := by
  rw [u8_xor_nat _ _ hl l4, u8_xor_nat _ _ (x8 hl l4) l3, u8_xor_nat _ _ (x8 (x8 hl l4) l3) l2, u8_xor_nat _ _ (x8 (x8 (x8 hl l4) l3) l2) l1]
  have := u8_xor_nat (n ^^^ a ^^^ b ^^^ c ^^^ d) 99 (x8 (x8 (x8 (x8 hl l4) l3) l2) l1) (by omega)
  rw [hm]
  exact this
 have HX := Lib.hid hx
 have H4 := Lib.hid h4
 have H3 := Lib.hid h3
 have H2 := Lib.hid h2
 have H1 := Lib.hid h1
 clear hx h4 h3 h2 h1 hm x8 l4 l3 l2 l1
 go_enter Tryz.func134, Tryz.ntmps134
 go_wp2_with (first
  | (go_at_call 141; ((with_reducible refine (Hid.out H4).mono ?_); rintro e w' ⟨rfl, rfl⟩))
  | (go_at_call 141; ((with_reducible refine (Hid.out H3).mono ?_); rintro e w' ⟨rfl, rfl⟩))
  | (go_at_call 141; ((with_reducible refine (Hid.out H2).mono ?_); rintro e w' ⟨rfl, rfl⟩))
  | (go_at_call 141; ((with_reducible refine (Hid.out H1).mono ?_); rintro e w' ⟨rfl, rfl⟩)))
 rw [HX.out]
 go_ret
 exact ⟨rfl, rfl⟩
theorem mixed_any (x : UInt8) (xi : Int) (w : World) (hx : xi = (x.toNat : Int)) : Calls Tryz.prog 134 #[.int .u8 xi] w fun e w' => e = .returned (.int .u8 ((mx x).toNat : Int)) ∧ w = w' := by
 subst hx
 rw [mx_nat]
 exact mixed_nat x.toNat w x.toNat_lt
theorem x8 {a b : Nat} (ha : a < 256) (hb : b < 256) : a ^^^ b < 256 := Nat.xor_lt_two_pow (n := 8) ha hb

theorem row256_ : RowTy Tryz.prog 180 256 := ⟨_, Tryz.underlying180, rfl, by kernel_rfl⟩
theorem row256 {n : Nat} (h : n = 256) : RowTy Tryz.prog 180 n := h ▸ row256_
theorem row255_ : RowTy Tryz.prog 209 255 := ⟨_, Tryz.underlying209, rfl, by kernel_rfl⟩
theorem row255 {n : Nat} (h : n = 255) : RowTy Tryz.prog 209 n := h ▸ row255_
theorem row176_ : RowTy Tryz.prog 182 176 := ⟨_, Tryz.underlying182, rfl, by kernel_rfl⟩
theorem row176 {n : Nat} (h : n = 176) : RowTy Tryz.prog 182 n := h ▸ row176_
theorem row16_ : RowTy Tryz.prog 22 16 := ⟨_, Tryz.underlying22, rfl, by kernel_rfl⟩
theorem row16 {n : Nat} (h : n = 16) : RowTy Tryz.prog 22 n := h ▸ row16_
theorem row4_ : RowTy Tryz.prog 173 4 := ⟨_, Tryz.underlying173, rfl, by kernel_rfl⟩
theorem row4 {n : Nat} (h : n = 4) : RowTy Tryz.prog 173 n := h ▸ row4_
def Z256 : List UInt8 := List.replicate 256 0
def Z255 : List UInt8 := List.replicate 255 0
def Z176 : List UInt8 := List.replicate 176 0
def Z16 : List UInt8 := List.replicate 16 0
def Z4 : List UInt8 := List.replicate 4 0
theorem Z256_len : Z256.length = 256 := by rw [Z256, List.length_replicate]
theorem Z255_len : Z255.length = 255 := by rw [Z255, List.length_replicate]
theorem Z176_len : Z176.length = 176 := by rw [Z176, List.length_replicate]
theorem Z16_len : Z16.length = 16 := by rw [Z16, List.length_replicate]
theorem Z4_len : Z4.length = 4 := by rw [Z4, List.length_replicate]
theorem zero256 (w : World) : (zeroValue 180).run Tryz.prog w = .ok (.agg (cells Z256).toArray) w := by kernel_rfl
theorem zero255 (w : World) : (zeroValue 209).run Tryz.prog w = .ok (.agg (cells Z255).toArray) w := by kernel_rfl
theorem zero176 (w : World) : (zeroValue 182).run Tryz.prog w = .ok (.agg (cells Z176).toArray) w := by kernel_rfl
theorem zero16 (w : World) : (zeroValue 22).run Tryz.prog w = .ok (.agg (cells Z16).toArray) w := by kernel_rfl
theorem zero4 (w : World) : (zeroValue 173).run Tryz.prog w = .ok (.agg (cells Z4).toArray) w := by kernel_rfl

theorem xr8 (a x : UInt8) : bits BinOp.xor IntKind.u8 (a.toNat : Int) (x.toNat : Int) = ((a ^^^ x).toNat : Int) := by
 rw [u8_xor_nat _ _ a.toNat_lt x.toNat_lt, UInt8.toNat_xor]
set_option maxRecDepth 100000 in
set_option maxHeartbeats 1000000 in
theorem powers_any (w : World) : Calls Tryz.prog 135 #[] w fun e w' => e = .returned (.agg (cells powT).toArray) ∧ Below w.heap.size w w' := by
 have hz := zero255
 have h0 : Blk ((w.alloc (Obj.cells (cells Z255).toArray 209)).alloc (Obj.cells (cells Z255).toArray 209)) w.heap.size 209 Z255 := (Blk.new _ _ _).alloc _
 have h1 : Blk ((w.alloc (Obj.cells (cells Z255).toArray 209)).alloc (Obj.cells (cells Z255).toArray 209)) (w.heap.size + 1) 209 (fillAt pw Z255 0) := by
  rw [fillAt_zero]; exact Blk.new_at _ _ _ _ _ (by simp) rfl
 have hb0 : Below w.heap.size w ((w.alloc (Obj.cells (cells Z255).toArray 209)).alloc (Obj.cells (cells Z255).toArray 209)) := ((Below.refl _ _).alloc (Nat.le_refl _) _).alloc (by simp) _
 have hp0 : (1 : Int) = ((pw 0).toNat : Int) := by rw [pw_zero]; rfl
 have HP0 := Lib.hid hp0
 clear hp0
 go_enter Tryz.func135, Tryz.ntmps135
 go_wp2
 go_loopw [2, 4] (fun vp vi wr => ∃ k : Nat, k ≤ 255 ∧ (k < 255 → vp = .int .u8 ((pw k).toNat : Int)) ∧ (∃ p : Int, vp = .int .u8 p) ∧ vi = .int .i64 k ∧ Blk wr w.heap.size 209 Z255 ∧ Blk wr (w.heap.size + 1) 209 (fillAt pw Z255 k) ∧ Below w.heap.size w wr) (fun _ i _ => 255 - (intOf i).toNat)
 case atStart => exact ⟨0, by omega, fun _ => by rw [← HP0.out], ⟨1, rfl⟩, rfl, h0, h1, hb0⟩
 case round =>
  clear h0 h1 hb0
  obtain ⟨k, hk, hvp, ⟨p, hp⟩, rfl, h0, h1, hb⟩ := hrel
  by_cases hlt : k < 255
  · have := hvp hlt
    subst hp
    injection this with _ hpe
    subst hpe
    clear hvp
    have hl := fillAt_len pw Z255 k (by rw [Z255_len]; omega)
    have hcell := h1.cell (j := k) (by rw [hl, Z255_len]; exact hlt)
    have hfr := h1.frozen k
    have hs := h1.set_ k (pw k)
    rw [fillAt_step pw Z255 k (by rw [Z255_len]; exact hlt)] at hs
    have hs0 := h0.far (p := ⟨w.heap.size + 1, k, none⟩) (by simp) (.int .u8 ((pw k).toNat : Int))
    have hbs := hb.setCell (p := ⟨w.heap.size + 1, k, none⟩) (by simp) (.int .u8 ((pw k).toNat : Int))
    have hx := xr8 (pw k) (dbl (pw k))
    have hnx : k + 1 < 255 → pw (k + 1) = pw k ^^^ dbl (pw k) := fun h => pw_succ k (by omega)
    have htw := fun wx => twice_any (pw k) ((pw k).toNat : Int) wx rfl
    obtain ⟨P, hP⟩ : ∃ P, P = pw k := ⟨_, rfl⟩
    rw [← hP] at hs hs0 hbs hx hnx htw ⊢
    obtain ⟨y, hy⟩ : ∃ y : Int, y = (((fillAt pw Z255 k).getD k 0).toNat : Int) := ⟨_, rfl⟩
    rw [← hy] at hcell
    obtain ⟨D, hD⟩ : ∃ D, D = dbl P := ⟨_, rfl⟩
    rw [← hD] at hx hnx htw
    have HT := Lib.hid htw
    have HN := Lib.hid hnx
    have HX := Lib.hid hx
    have hPl := P.toNat_lt
    have hDl := D.toNat_lt
    clear htw hnx hx hl hP hy hD
    go_wp2_with (first
     | (go_at_call 137; ((with_reducible refine (Hid.out HT _).mono ?_); rintro e w' ⟨rfl, rfl⟩)))
    go_roundw
    case rel => exact ⟨k + 1, by omega, fun h => by rw [HN.out h, ← HX.out], ⟨_, rfl⟩, by go_num, hs0, hs, hbs⟩
    case measure => simp [intOf]; omega
  · obtain rfl : k = 255 := by omega
    have hpow : fillAt pw Z255 255 = powT := by rw [fillAt_all pw Z255 255 Z255_len]; exact list_tab powT powT_len
    rw [hpow] at h1
    have hL : (cells powT).length = 255 := by rw [length_cells, powT_len]
    have hZL : (cells Z255).length = 255 := by rw [length_cells, Z255_len]
    have HL := Lib.hid hL
    have HZL := Lib.hid hZL
    subst hp
    clear hpow hvp hL hZL
    go_wp2_with (first
     | (with_reducible refine wpList_ld rfl 209 (.tmp 1) rfl (w.heap.size + 1) 0 rfl (cells powT) (h1.v.range 0 _ (by simp)) (row255 HL.out) ?_)
     | ((with_reducible refine wpList_st rfl 209 (.tmp 0) (.tmp 15) rfl w.heap.size 0 (cells powT) rfl rfl 209 _ h0.v (by rw [HL.out, HZL.out]; omega) (row255 HL.out) (cells_one _) ?_); intro w2 hB2 ho2))
    rw [splice_all _ _ (by rw [HL.out, HZL.out])] at hB2
    exact ret_row (by rfl) (by rfl) hB2 (row255 HL.out) (by rfl) ⟨rfl, hb.trans (ho2.below (Nat.le_refl _))⟩
end Go.Proofs.YtheefckohnaceaaGreatDoor

namespace Go.Proofs.YtheefckohnaceaaGreatDoor
open Go.RowKit

theorem run_index_cells {P : Program} (t e : TypeId) (n : Nat) (h : P.underlying t = some (.array n e)) (he : P.underlying e = some (.int .u8)) (hs : ∀ w, (sizeOf e).run P w = .ok 1 w) (bs : List UInt8) (hl : bs.length = n) (k : Nat) (hk : k < n) (w : World) :
 (Instr.index t (.agg (cells bs).toArray) (.int .i64 (k : Int))).run P w = .ok (.int .u8 ((bs.getD k 0).toNat : Int)) w := by
 have hc : (cells bs).toArray[k]? = some (.int .u8 ((bs.getD k 0).toNat : Int)) := by
  rw [List.getElem?_toArray]; exact cells_at (by omega)
 have h1 : 0 ≤ (k : Int) ∧ (k : Int) < (n : Int) := by omega
 simp only [Instr.index, asIntOf, Sem.run_bind, Sem.run_pure, Result.andThen_ok, run_underlying h, h1, and_self, if_true, hs, part, isAgg, run_underlying he, Int.toNat_natCast, Nat.mul_one, hc]
 simp
section
variable {P : Program} {w : World} {ops : Array Oper} {rest : List Oper} {op : Oper} {a : Act} {Q : Exit → Act → World → Prop}
theorem wpList_acut2 (hgd : op.guard = none) (t : TypeId) (x lo hi : Operand) (ho : op.op = .slice t x (some lo) (some hi) none) (ht : P.underlying t = some (.array (P.arrayLen t) (P.elem t))) (hs : ∀ w, (sizeOf (P.elem t)).run P w = .ok 1 w)
 (N : Nat) (hN : P.arrayLen t = N) (g o : Nat) (hx : a.eval x = .pointer (some ⟨g, o, none⟩)) (l h : Nat) (i j : Int) (hlo : a.eval lo = .int .i64 i) (hhi : a.eval hi = .int .i64 j) (hi1 : i = (l : Int)) (hj1 : j = (h : Int)) (hlh : l ≤ h) (hl : l < N) (hh : h ≤ N)
 (hK : wpList P ops Q rest (a.put op.dst (.slice (some ⟨g, o + l, none⟩) (h - l) (N - l))) w) : wpList P ops Q (op :: rest) a w := by
 subst hi1; subst hj1
 refine wpList_plain hgd fun K hK2 => ?_
 unfold Oper.wp execOp
 simp only [ho, hx, Option.map_some, Option.map_none, hlo, hhi, Sem.run_bind, run_sliceAt_array_lh w t ⟨g, o, none⟩ ht .i64 .i64 (l : Int) (h : Int) (by omega) (by omega) (by omega), hs, Result.andThen_ok, Sem.run_pure, slicedAt, Int.toNat_natCast, hN, add_lit, Nat.mul_one]
 rw [if_neg (by omega)]
 exact hK2 _ _ hK
theorem wpList_toarr (hgd : op.guard = none) (arr e : TypeId) (n : Nat) (x : Operand) (ho : op.op = .sliceToArrayPointer arr x) (ht : P.underlying arr = some (.array n e)) (A : Option Addr) (len cap : Nat) (hx : a.eval x = .slice A len cap) (hn : n ≤ len)
 (hK : wpList P ops Q rest (a.put op.dst (.pointer A)) w) : wpList P ops Q (op :: rest) a w := by
 refine wpList_plain hgd fun K hK2 => ?_
 unfold Oper.wp execOp
 simp only [ho, hx, Sem.run_bind, run_arrayAt _ arr e n A len cap ht hn, Result.andThen_ok, Sem.run_pure]
 exact hK2 _ _ hK
theorem wpList_built1 (hgd : op.guard = none) (t : TypeId) (i : Nat) (x : Operand) (ho : op.op = .build t #[(i, x)]) (u v : Value) (hx : a.eval x = u) (hr : (Instr.build t #[(i, u)]).run P w = .ok v w)
 (hK : wpList P ops Q rest (a.put op.dst v) w) : wpList P ops Q (op :: rest) a w := by
 refine wpList_plain hgd fun K hK2 => ?_
 unfold Oper.wp execOp
 simp only [ho, List.map_toArray, List.map_cons, List.map_nil, hx, Sem.run_bind, hr, Result.andThen_ok, Sem.run_pure]
 exact hK2 _ _ hK
end
end Go.Proofs.YtheefckohnaceaaGreatDoor

namespace Go.Proofs.YtheefckohnaceaaGreatDoor
open Go.RowKit
set_option linter.unusedVariables false

theorem und_u8 : Tryz.prog.underlying 5 = some (.int .u8) := by kernel_rfl
theorem sz_u8 (w : World) : (sizeOf 5).run Tryz.prog w = .ok 1 w := by kernel_rfl
theorem index255 (k : Nat) (hk : k < 255) (w : World) : (Instr.index 209 (.agg (cells powT).toArray) (.int .i64 (k : Int))).run Tryz.prog w = .ok (.int .u8 ((pw k).toNat : Int)) w :=
 run_index_cells 209 5 255 (by kernel_rfl) und_u8 sz_u8 powT powT_len k hk w
set_option maxRecDepth 100000 in
set_option maxHeartbeats 1000000 in
theorem box_any (w : World) : Calls Tryz.prog 111 #[] w fun e w' => e = .returned (.agg (cells boxT).toArray) ∧ Below w.heap.size w w' := by
 have hz := zero256
 have hz2 := zero255
 have hmx := fun wx => mixed_any 0 0 wx rfl
 have HM := Lib.hid hmx
 have hset : (cells Z256).set 0 (.int .u8 ((mx 0).toNat : Int)) = cells (boxAt 0) := cells_set Z256 0 (mx 0)
 have HS := Lib.hid hset
 have k0 : Blk ((w.alloc (Obj.cells (cells Z256).toArray 180)).alloc (Obj.cells (cells (boxAt 0)).toArray 180)) w.heap.size 180 Z256 := (Blk.new _ _ _).alloc _
 have k1 : Blk ((w.alloc (Obj.cells (cells Z256).toArray 180)).alloc (Obj.cells (cells (boxAt 0)).toArray 180)) (w.heap.size + 1) 180 (boxAt 0) := Blk.new_at _ _ _ _ _ (by simp) rfl
 have kb : Below w.heap.size w ((w.alloc (Obj.cells (cells Z256).toArray 180)).alloc (Obj.cells (cells (boxAt 0)).toArray 180)) := ((Below.refl _ _).alloc (Nat.le_refl _) _).alloc (by simp) _
 obtain ⟨w2, hw2⟩ : ∃ w2, w2 = ((w.alloc (Obj.cells (cells Z256).toArray 180)).alloc (Obj.cells (cells (boxAt 0)).toArray 180)) := ⟨_, rfl⟩
 rw [← hw2] at k0 k1 kb
 have HW2 := Lib.hid hw2
 clear hmx hset hw2
 have hL : (cells powT).length = 255 := by rw [length_cells, powT_len]
 have HL := Lib.hid hL
 have hZ : (cells Z255).length = 255 := by rw [length_cells, Z255_len]
 have HZ := Lib.hid hZ
 clear hL hZ
 go_enter Tryz.func111, Tryz.ntmps111
 go_wp2_with (first
  | (go_at_call 134; ((with_reducible refine (Hid.out HM _).mono ?_); rintro e w' ⟨rfl, rfl⟩))
  | (go_at_call 135; rw [HS.out, ← HW2.out]; ((with_reducible refine (powers_any _).mono ?_); rintro e w3 ⟨rfl, hb3⟩; have j0 := (k0.below hb3 k0.lt).alloc (.cells (cells Z255).toArray 209); have j1 := (k1.below hb3 k1.lt).alloc (.cells (cells Z255).toArray 209); have jl := k1.lt; have jsz := hb3.size; have jb := (kb.trans (hb3.mono kb.size)).alloc (by have := kb.size; omega) (.cells (cells Z255).toArray 209); have j2 := Blk.new_at w3 w3.heap.size 209 Z255 _ rfl rfl))
  | ((with_reducible refine wpList_st rfl 209 (.tmp 2) (.tmp 7) rfl w3.heap.size 0 (cells powT) rfl rfl 209 _ j2.v (by rw [HL.out, HZ.out]; omega) (row255 HL.out) (cells_one _) ?_); intro w4 hB4 ho4; rw [splice_all _ _ (by rw [HL.out, HZ.out])] at hB4; have i0 := Blk.only j0 ho4 (by omega); have i1 := Blk.only j1 ho4 (by omega); have ib := jb.trans (ho4.below (by have := kb.size; omega)))
  | (with_reducible refine wpList_ld rfl 209 (.tmp 2) rfl w3.heap.size 0 rfl (cells powT) (hB4.range 0 _ (by simp)) (row255 HL.out) ?_))
 have hg3 : w.heap.size + 1 < w3.heap.size := by omega
 clear jb j0 j1 j2 jsz jl ho4 k0 k1 kb hb3 HW2 HS
 obtain ⟨g3, hg⟩ : ∃ g3, g3 = w3.heap.size := ⟨_, rfl⟩
 rw [← hg] at hB4 hg3 ⊢
 clear hg
 have hP : Blk w4 g3 209 powT := hB4
 clear hB4
 go_loopw [9] (fun vi wr => ∃ k : Nat, k ≤ 255 ∧ vi = .int .i64 k ∧ Blk wr w.heap.size 180 Z256 ∧ Blk wr (w.heap.size + 1) 180 (boxAt k) ∧ Blk wr g3 209 powT ∧ Below w.heap.size w wr) (fun i _ => 255 - (intOf i).toNat)
 case atStart => exact ⟨0, by omega, rfl, i0, i1, hP, ib⟩
 case round =>
  clear i0 i1 hP ib
  obtain ⟨k, hk, rfl, g0, g1, g2, gb⟩ := hrel
  by_cases hlt : k < 255
  · have hix := index255 k hlt
    obtain ⟨M, hM⟩ : ∃ M, M = (255 - k) % 255 := ⟨_, rfl⟩
    have hMc : (255 - (k : Int)) % 255 = (M : Int) := by omega
    have hMl : M < 255 := by omega
    have hcM := g2.cell (j := M) (by rw [powT_len]; exact hMl)
    have hpw : (powT.getD M 0) = pw M := rfl
    rw [hpw] at hcM
    have hmx := fun wx => mixed_any (pw M) ((pw M).toNat : Int) wx rfl
    have hnx : boxAt (k + 1) = (boxAt k).set (pw k).toNat (mx (pw M)) := by rw [boxAt, hM]
    have hpl := (pw k).toNat_lt
    have hcell := g1.cell (j := (pw k).toNat) (by rw [boxAt_len]; exact hpl)
    have hfr := g1.frozen (pw k).toNat
    have s1 := g1.set_ (pw k).toNat (mx (pw M))
    rw [← hnx] at s1
    have s0 := g0.far (p := ⟨w.heap.size + 1, (pw k).toNat, none⟩) (by simp) (.int .u8 ((mx (pw M)).toNat : Int))
    have s2 := g2.far (p := ⟨w.heap.size + 1, (pw k).toNat, none⟩) (by simp; omega) (.int .u8 ((mx (pw M)).toNat : Int))
    have sb := gb.setCell (p := ⟨w.heap.size + 1, (pw k).toNat, none⟩) (by simp) (.int .u8 ((mx (pw M)).toNat : Int))
    obtain ⟨y, hy⟩ : ∃ y : Int, y = (((boxAt k).getD (pw k).toNat 0).toNat : Int) := ⟨_, rfl⟩
    rw [← hy] at hcell
    obtain ⟨p, hp⟩ : ∃ p, p = (pw k).toNat := ⟨_, rfl⟩
    rw [← hp] at hcell hfr s1 s0 s2 sb hpl hix
    have HMX := Lib.hid hmx
    clear hmx hnx hy hp hpw hM
    go_wp2_with (first
     | (go_at_call 134; ((with_reducible refine (Hid.out HMX _).mono ?_); rintro e w' ⟨rfl, rfl⟩)))
    go_roundw
    case rel => exact ⟨k + 1, by omega, by go_num, s0, s1, s2, sb⟩
    case measure => simp [intOf]; omega
  · obtain rfl : k = 255 := by omega
    rw [boxAt_all] at g1
    have hBL : (cells boxT).length = 256 := by rw [length_cells, boxT_len]
    have hZL : (cells Z256).length = 256 := by rw [length_cells, Z256_len]
    have HBL := Lib.hid hBL
    have HZL := Lib.hid hZL
    clear hBL hZL
    go_wp2_with (first
     | (with_reducible refine wpList_ld rfl 180 (.tmp 1) rfl (w.heap.size + 1) 0 rfl (cells boxT) (g1.v.range 0 _ (by simp)) (row256 HBL.out) ?_)
     | ((with_reducible refine wpList_st rfl 180 (.tmp 0) (.tmp 22) rfl w.heap.size 0 (cells boxT) rfl rfl 180 _ g0.v (by rw [HBL.out, HZL.out]; omega) (row256 HBL.out) (cells_one _) ?_); intro w5 hB5 ho5))
    rw [splice_all _ _ (by rw [HBL.out, HZL.out])] at hB5
    exact ret_row (by rfl) (by rfl) hB5 (row256 HBL.out) (by rfl) ⟨rfl, gb.trans (ho5.below (Nat.le_refl _))⟩
def ciph (ks : List UInt8) : List Value := cells boxT ++ cells ks
theorem ciph_box {ks : List UInt8} {i : Nat} (h : i < 256) : (ciph ks)[i]? = some (.int .u8 ((boxT.getD i 0).toNat : Int)) := by
 unfold ciph
 rw [List.getElem?_append_left (by rw [length_cells, boxT_len]; exact h)]
 exact cells_at (by rw [boxT_len]; exact h)
theorem ciph_key {ks : List UInt8} {i : Nat} (h : i < ks.length) : (ciph ks)[256 + i]? = some (.int .u8 ((ks.getD i 0).toNat : Int)) := by
 unfold ciph
 rw [List.getElem?_append_right (by rw [length_cells, boxT_len]; omega), length_cells, boxT_len, show 256 + i - 256 = i by omega]
 exact cells_at h
theorem grown_drew {w w' : World} {row : Option Nat} (h : w.grownBy w' row) : w.grownBy w'.drew row := ⟨h.os, h.tape, h.output, h.size, h.block⟩
set_option maxRecDepth 100000 in
set_option maxHeartbeats 1000000 in
theorem takeKey_any (p g r : Nat) (e : TypeId) (ks s : List UInt8) (ri : Int) (w : World) (hr : r ≤ 10) (hri : ri = (r : Int)) (hk : ks.length = 176) (hs : s.length = 16) (hc : BlkV w p e (ciph ks)) (hb : Blk w g 22 s) (hpg : p ≠ g) :
 Calls Tryz.prog 113 #[.pointer (some ⟨p, 0, none⟩), .pointer (some ⟨g, 0, none⟩), .int .i64 ri] w fun e w' => e = .returned (.tuple #[]) ∧ Blk w' g 22 (addK ks r s) ∧ Only g w w' := by
 subst hri
 have HK := Lib.hid hk
 have HS := Lib.hid hs
 have h0 : Blk w g 22 (fillAt (addB ks r s) s 0) := by rw [fillAt_zero]; exact hb
 clear hk hs
 go_enter Tryz.func113, Tryz.ntmps113
 go_wp2
 go_loopw [7] (fun vi wr => ∃ k : Nat, k ≤ 16 ∧ vi = .int .i64 k ∧ Blk wr g 22 (fillAt (addB ks r s) s k) ∧ Only g w wr) (fun i _ => 16 - (intOf i).toNat)
 case atStart => exact ⟨0, by omega, rfl, h0, Only.refl _ _⟩
 case round =>
  clear h0 hb
  obtain ⟨k, hk, rfl, h1, ho⟩ := hrel
  by_cases hlt : k < 16
  · have hcell := h1.cell (j := k) (by rw [fillAt_len _ _ _ (by rw [HS.out]; omega), HS.out]; exact hlt)
    rw [fillAt_ge _ _ _ _ (Nat.le_refl _)] at hcell
    have hfr := h1.frozen k
    have hck := ((hc.only ho hpg).cell (256 + (16 * r + k))).trans (ciph_key (by rw [HK.out]; omega))
    have hst := h1.set_ k (addB ks r s k)
    rw [fillAt_step _ _ _ (by rw [HS.out]; exact hlt)] at hst
    have hoo := ho.trans (Only.set wr g k (.int .u8 ((addB ks r s k).toNat : Int)))
    have hx : bits BinOp.xor IntKind.u8 ((s.getD k 0).toNat : Int) ((ks.getD (16 * r + k) 0).toNat : Int) = ((addB ks r s k).toNat : Int) := xr8 _ _
    obtain ⟨y, hy⟩ : ∃ y : Int, y = ((s.getD k 0).toNat : Int) := ⟨_, rfl⟩
    obtain ⟨z, hz⟩ : ∃ z : Int, z = ((ks.getD (16 * r + k) 0).toNat : Int) := ⟨_, rfl⟩
    obtain ⟨v, hv⟩ : ∃ v : Int, v = ((addB ks r s k).toNat : Int) := ⟨_, rfl⟩
    rw [← hv] at hst hoo hx
    rw [← hy] at hcell hx
    rw [← hz] at hck hx
    clear hv hy hz
    obtain ⟨R, hR⟩ : ∃ R, R = 16 * r + k := ⟨_, rfl⟩
    rw [← hR] at hck
    have e1 : IntKind.i64.wrap ((r : Int) * 16) = (r : Int) * 16 := IntWalk.i64_in _ (by omega)
    have e2 : IntKind.i64.wrap ((r : Int) * 16 + (k : Int)) = (R : Int) := by
     rw [show (r : Int) * 16 + (k : Int) = (R : Int) by omega]; exact IntWalk.i64_in _ (by omega)
    have e3 : R < 176 := by omega
    have e4 : (R : Int) < 176 := by omega
    have e5 : (k : Int) < 16 := by omega
    have HC := Lib.hid hc
    clear hR hc
    go_wp2
    go_still_tail 17, (by kernel_rfl)
    change wpList _ _ _ _ _ wr.drew
    clear e1 e2 e3 e4 e5 hck
    go_wp2
    go_roundw
    case rel => exact ⟨k + 1, by omega, by go_num, hst, hoo.drew⟩
    case measure => simp [intOf]; omega
  · obtain rfl : k = 16 := by omega
    rw [fillAt_all _ _ _ HS.out] at h1
    go_wp2
    go_end0
    exact ⟨rfl, h1, ho⟩

set_option maxRecDepth 100000 in
set_option maxHeartbeats 1000000 in
theorem takeBox_any (p g : Nat) (e : TypeId) (ks s : List UInt8) (w : World) (hs : s.length = 16) (hc : BlkV w p e (ciph ks)) (hb : Blk w g 22 s) (hpg : p ≠ g) :
 Calls Tryz.prog 114 #[.pointer (some ⟨p, 0, none⟩), .pointer (some ⟨g, 0, none⟩)] w fun e w' => e = .returned (.tuple #[]) ∧ Blk w' g 22 (subR s) ∧ w.grownBy w' (some g) := by
 have hz := zero16
 have hpl := hc.lt
 have hgl := hb.lt
 have hg1 := hb.alloc (.cells (cells Z16).toArray 22)
 have hc1 := hc.alloc (.cells (cells Z16).toArray 22)
 have ht1 : BlkV (w.alloc (.cells (cells Z16).toArray 22)) w.heap.size 22 (cells Z16) := BlkV.new _ _ _
 have hSL : (cells s).length = 16 := by rw [length_cells, hs]
 have hZL : (cells Z16).length = 16 := by rw [length_cells, Z16_len]
 have HSL := Lib.hid hSL
 have HZL := Lib.hid hZL
 have HS := Lib.hid hs
 clear hSL hZL hs
 go_enter Tryz.func114, Tryz.ntmps114
 go_wp2_with (first
  | (with_reducible refine wpList_ld rfl 22 (.tmp 9) rfl g 0 rfl (cells s) (hb.v.range 0 _ (by simp)) (row16 HSL.out) ?_)
  | ((with_reducible refine wpList_st rfl 22 (.tmp 4) (.tmp 10) rfl w.heap.size 0 (cells s) rfl rfl 22 _ ht1 (by rw [HSL.out, HZL.out]; omega) (row16 HSL.out) (cells_one _) ?_); intro w2 hB2 ho2; rw [splice_all _ _ (by rw [HSL.out, HZL.out])] at hB2))
 have k1 : Blk w2 g 22 (fillAt (subB s) s (4 * 0)) := by rw [fillAt_zero]; exact Blk.only hg1 ho2 (by omega)
 have k2 : Blk w2 w.heap.size 22 s := hB2
 have k3 : w.grownBy w2 (some g) := grown_of_below (((Below.refl w.heap.size w).alloc (Nat.le_refl _) _).trans (ho2.below (Nat.le_refl _))) _
 clear hB2 ho2 ht1 hc1 hg1 hb
 go_loopw [11] (fun vi wr => ∃ c : Nat, c ≤ 4 ∧ vi = .int .i64 c ∧ Blk wr g 22 (fillAt (subB s) s (4 * c)) ∧ Blk wr w.heap.size 22 s ∧ w.grownBy wr (some g)) (fun i _ => 4 - (intOf i).toNat)
 case atStart => exact ⟨0, by omega, rfl, k1, k2, k3⟩
 case round =>
  clear k1 k2 k3
  obtain ⟨c, hc4, rfl, h1, h2, hg⟩ := hrel
  by_cases hlt : c < 4
  · have hcd : decide ((c : Int) < 4) = true := by simp; omega
    go_wp2
    clear hcd
    go_loopw [14] (fun vi wx => ∃ r : Nat, r ≤ 4 ∧ vi = .int .i64 r ∧ Blk wx g 22 (fillAt (subB s) s (4 * c + r)) ∧ Blk wx w.heap.size 22 s ∧ w.grownBy wx (some g)) (fun i _ => 4 - (intOf i).toNat)
    case atStart => exact ⟨0, by omega, rfl, h1, h2, hg⟩
    case round =>
     clear h1 h2 hg
     obtain ⟨r, hr4, rfl, h1, h2, hg⟩ := hrel
     by_cases hlt2 : r < 4
     · obtain ⟨I, hI⟩ : ∃ I, I = 4 * c + r := ⟨_, rfl⟩
       obtain ⟨q, hq⟩ : ∃ q, q = (c + r) % 4 := ⟨_, rfl⟩
       obtain ⟨F, hF⟩ : ∃ F, F = 4 * q + r := ⟨_, rfl⟩
       have hsub : subB s I = sb (s.getD F 0) := by
        unfold subB
        rw [hI, show (4 * c + r) / 4 = c by omega, show (4 * c + r) % 4 = r by omega, hF, hq]
       have hcell := h1.cell (j := I) (by rw [fillAt_len _ _ _ (by rw [HS.out]; omega), HS.out]; omega)
       have hfr := h1.frozen I
       have hcw := h2.cell (j := F) (by rw [HS.out]; omega)
       have hbx := ((hc.grown hg (by simp; exact hpg)).cell (s.getD F 0).toNat).trans (ciph_box (UInt8.toNat_lt _))
       have hst := h1.set_ I (subB s I)
       rw [hI, fillAt_step _ _ _ (by rw [HS.out]; omega), show 4 * c + r + 1 = 4 * c + (r + 1) by omega, ← hI] at hst
       have h2s := h2.far (p := ⟨g, I, none⟩) (by simp; omega) (.int .u8 ((subB s I).toNat : Int))
       have hgs := hg.trans (Only.set wr g I (.int .u8 ((subB s I).toNat : Int))).grown
       have hbd : boxT.getD (s.getD F 0).toNat 0 = sb (s.getD F 0) := rfl
       rw [hbd, ← hsub] at hbx
       have hyl := (s.getD F 0).toNat_lt
       obtain ⟨y, hy⟩ : ∃ y, y = (s.getD F 0).toNat := ⟨_, rfl⟩
       rw [← hy] at hcw hbx hyl
       obtain ⟨v, hv⟩ : ∃ v : Int, v = ((subB s I).toNat : Int) := ⟨_, rfl⟩
       rw [← hv] at hst h2s hgs hbx
       obtain ⟨u, hu⟩ : ∃ u : Int, u = (((fillAt (subB s) s (4 * c + r)).getD I 0).toNat : Int) := ⟨_, rfl⟩
       rw [← hu] at hcell
       have hmod : ((c : Int) + r) % 4 = (q : Int) := by omega
       have e1 : IntKind.i64.wrap ((c : Int) * 4) = (c : Int) * 4 := IntWalk.i64_in _ (by omega)
       have e2 : IntKind.i64.wrap ((c : Int) * 4 + (r : Int)) = (I : Int) := by
        rw [show (c : Int) * 4 + (r : Int) = (I : Int) by omega]; exact IntWalk.i64_in _ (by omega)
       have e3 : IntKind.i64.wrap ((q : Int) * 4) = (q : Int) * 4 := IntWalk.i64_in _ (by omega)
       have e4 : IntKind.i64.wrap ((q : Int) * 4 + (r : Int)) = (F : Int) := by
        rw [show (q : Int) * 4 + (r : Int) = (F : Int) by omega]; exact IntWalk.i64_in _ (by omega)
       have f1 : (I : Int) < 16 := by omega
       have f2 : I < 16 := by omega
       have f3 : (F : Int) < 16 := by omega
       have f4 : F < 16 := by omega
       have f5 : (y : Int) < 256 := by omega
       have HC := Lib.hid hc
       have HGR := Lib.hid hg
       clear hF hq hsub hbd hy hv hu hI hc hg
       go_wp2
       go_still_tail 18, (by kernel_rfl)
       change wpList _ _ _ _ _ wr.drew
       clear e1 e2 e3 e4 f1 f2 f3 f4 f5 hcw hbx hmod
       go_wp2
       go_roundw
       case rel => exact ⟨r + 1, by omega, by go_num, hst, h2s, grown_drew hgs⟩
       case measure => simp [intOf]; omega
     · obtain rfl : r = 4 := by omega
       go_wp2
       go_roundw
       case rel => exact ⟨c + 1, by omega, by go_num, by rw [show 4 * (c + 1) = 4 * c + 4 by omega]; exact h1, h2, hg⟩
       case measure => simp [intOf]; omega
  · obtain rfl : c = 4 := by omega
    rw [show 4 * 4 = 16 from rfl, fillAt_all _ _ _ HS.out] at h1
    go_wp2
    go_end0
    exact ⟨rfl, h1, hg⟩
theorem twice_i (x : UInt8) (xi yi : Int) (hx : xi = (x.toNat : Int)) (hy : yi = ((dbl x).toNat : Int)) (w : World) : Calls Tryz.prog 137 #[.int .u8 xi] w fun e w' => e = .returned (.int .u8 yi) ∧ w = w' := by
 subst hy
 exact twice_any x xi w hx
theorem u8_ex (x : UInt8) : ∃ i : Int, i = (x.toNat : Int) ∧ 0 ≤ i ∧ i < 256 := ⟨_, rfl, by omega, by have := x.toNat_lt; omega⟩
theorem xr8i {a b : UInt8} {i j k : Int} (hi : i = (a.toNat : Int)) (hj : j = (b.toNat : Int)) (hk : k = ((a ^^^ b).toNat : Int)) : bits BinOp.xor IntKind.u8 i j = k := by
 subst hi; subst hj; subst hk; exact xr8 a b
theorem col_step {w : World} {g k : Nat} {s : List UInt8} {f : Nat → UInt8} (hs : s.length = 16) (h : Blk w g 22 (fillAt f s k)) (hk : k < 16) (v : Int) (hv : v = ((f k).toNat : Int)) :
 (∃ u : Int, w.cell? ⟨g, k, none⟩ = some (.int .u8 u)) ∧ w.frozen? ⟨g, k, none⟩ = false ∧ Blk (w.setCell ⟨g, k, none⟩ (.int .u8 v)).drew g 22 (fillAt f s (k + 1)) ∧ Only g w (w.setCell ⟨g, k, none⟩ (.int .u8 v)).drew := by
 subst hv
 have hl := fillAt_len f s k (by omega)
 refine ⟨⟨_, h.cell (j := k) (by omega)⟩, h.frozen k, ?_, (Only.set w g k _).drew⟩
 have := h.set_ k (f k)
 rw [fillAt_step _ _ _ (by omega)] at this
 exact this

set_option maxRecDepth 100000 in
set_option maxHeartbeats 2000000 in
theorem multiply_any (g : Nat) (s : List UInt8) (w : World) (hs : s.length = 16) (hb : Blk w g 22 s) :
 Calls Tryz.prog 115 #[.pointer (some ⟨g, 0, none⟩)] w fun e w' => e = .returned (.tuple #[]) ∧ Blk w' g 22 (mulC s) ∧ Only g w w' := by
 have HS := Lib.hid hs
 have h0 : Blk w g 22 (fillAt (mulB s) s (4 * 0)) := by rw [fillAt_zero]; exact hb
 clear hs
 go_enter Tryz.func115, Tryz.ntmps115
 go_wp2
 go_loopw [9] (fun vi wr => ∃ c : Nat, c ≤ 4 ∧ vi = .int .i64 c ∧ Blk wr g 22 (fillAt (mulB s) s (4 * c)) ∧ Only g w wr) (fun i _ => 4 - (intOf i).toNat)
 case atStart => exact ⟨0, by omega, rfl, h0, Only.refl _ _⟩
 case round =>
  clear h0 hb
  obtain ⟨c, hc4, rfl, h1, ho⟩ := hrel
  by_cases hlt : c < 4
  · have m0 : mulB s (4 * c) = s.getD (4 * c) 0 ^^^ (s.getD (4 * c) 0 ^^^ s.getD (4 * c + 1) 0 ^^^ s.getD (4 * c + 2) 0 ^^^ s.getD (4 * c + 3) 0) ^^^ dbl (s.getD (4 * c) 0 ^^^ s.getD (4 * c + 1) 0) := by
     unfold mulB; rw [show (4 * c) / 4 = c by omega, show (4 * c) % 4 = 0 by omega]
    have m1 : mulB s (4 * c + 1) = s.getD (4 * c + 1) 0 ^^^ (s.getD (4 * c) 0 ^^^ s.getD (4 * c + 1) 0 ^^^ s.getD (4 * c + 2) 0 ^^^ s.getD (4 * c + 3) 0) ^^^ dbl (s.getD (4 * c + 1) 0 ^^^ s.getD (4 * c + 2) 0) := by
     unfold mulB; rw [show (4 * c + 1) / 4 = c by omega, show (4 * c + 1) % 4 = 1 by omega]
    have m2 : mulB s (4 * c + 2) = s.getD (4 * c + 2) 0 ^^^ (s.getD (4 * c) 0 ^^^ s.getD (4 * c + 1) 0 ^^^ s.getD (4 * c + 2) 0 ^^^ s.getD (4 * c + 3) 0) ^^^ dbl (s.getD (4 * c + 2) 0 ^^^ s.getD (4 * c + 3) 0) := by
     unfold mulB; rw [show (4 * c + 2) / 4 = c by omega, show (4 * c + 2) % 4 = 2 by omega]
    have m3 : mulB s (4 * c + 3) = s.getD (4 * c + 3) 0 ^^^ (s.getD (4 * c) 0 ^^^ s.getD (4 * c + 1) 0 ^^^ s.getD (4 * c + 2) 0 ^^^ s.getD (4 * c + 3) 0) ^^^ dbl (s.getD (4 * c + 3) 0 ^^^ s.getD (4 * c) 0) := by
     unfold mulB; rw [show (4 * c + 3) / 4 = c by omega, show (4 * c + 3) % 4 = 3 by omega]; rfl
    have hl := fillAt_len (mulB s) s (4 * c) (by rw [HS.out]; omega)
    have hl16 : (fillAt (mulB s) s (4 * c)).length = 16 := by rw [hl, HS.out]
    have c0 := h1.cell (j := 4 * c) (by omega)
    have c1 := h1.cell (j := 4 * c + 1) (by omega)
    have c2 := h1.cell (j := 4 * c + 2) (by omega)
    have c3 := h1.cell (j := 4 * c + 3) (by omega)
    rw [fillAt_ge _ _ _ _ (by omega)] at c0 c1 c2 c3
    obtain ⟨P, hP⟩ : ∃ P, P = s.getD (4 * c) 0 := ⟨_, rfl⟩
    obtain ⟨Q, hQ⟩ : ∃ P, P = s.getD (4 * c + 1) 0 := ⟨_, rfl⟩
    obtain ⟨R, hR⟩ : ∃ P, P = s.getD (4 * c + 2) 0 := ⟨_, rfl⟩
    obtain ⟨S, hSS⟩ : ∃ P, P = s.getD (4 * c + 3) 0 := ⟨_, rfl⟩
    rw [← hP, ← hQ, ← hR, ← hSS] at m0 m1 m2 m3
    rw [← hP] at c0
    rw [← hQ] at c1
    rw [← hR] at c2
    rw [← hSS] at c3
    clear hP hQ hR hSS hl hl16
    obtain ⟨p, hp, p1, p2⟩ := u8_ex P
    obtain ⟨q, hq, q1, q2⟩ := u8_ex Q
    obtain ⟨r, hr, r1, r2⟩ := u8_ex R
    obtain ⟨u, hu, u1, u2⟩ := u8_ex S
    rw [← hp] at c0
    rw [← hq] at c1
    rw [← hr] at c2
    rw [← hu] at c3
    obtain ⟨pq, hpq, pq1, pq2⟩ := u8_ex (P ^^^ Q)
    obtain ⟨pqr, hpqr, pqr1, pqr2⟩ := u8_ex (P ^^^ Q ^^^ R)
    obtain ⟨al, hal, al1, al2⟩ := u8_ex (P ^^^ Q ^^^ R ^^^ S)
    have b1 := xr8i hp hq hpq
    have b2 := xr8i hpq hr hpqr
    have b3 := xr8i hpqr hu hal
    obtain ⟨d0, hd0, d01, d02⟩ := u8_ex (dbl (P ^^^ Q))
    obtain ⟨pa, hpa, pa1, pa2⟩ := u8_ex (P ^^^ (P ^^^ Q ^^^ R ^^^ S))
    obtain ⟨v0, hv0, v01, v02⟩ := u8_ex (mulB s (4 * c))
    have b4 := xr8i hp hal hpa
    have b5 := xr8i (k := v0) hpa hd0 (by rw [← m0]; exact hv0)
    have t0 := fun wx => twice_i (P ^^^ Q) pq d0 hpq hd0 wx
    obtain ⟨qr, hqr, qr1, qr2⟩ := u8_ex (Q ^^^ R)
    obtain ⟨d1, hd1, d11, d12⟩ := u8_ex (dbl (Q ^^^ R))
    obtain ⟨qa, hqa, qa1, qa2⟩ := u8_ex (Q ^^^ (P ^^^ Q ^^^ R ^^^ S))
    obtain ⟨v1, hv1, v11, v12⟩ := u8_ex (mulB s (4 * c + 1))
    have b6 := xr8i hq hal hqa
    have b7 := xr8i (k := v1) hqa hd1 (by rw [← m1]; exact hv1)
    have b8 := xr8i hq hr hqr
    have t1 := fun wx => twice_i (Q ^^^ R) qr d1 hqr hd1 wx
    obtain ⟨ru, hru, ru1, ru2⟩ := u8_ex (R ^^^ S)
    obtain ⟨d2, hd2, d21, d22⟩ := u8_ex (dbl (R ^^^ S))
    obtain ⟨ra, hra, ra1, ra2⟩ := u8_ex (R ^^^ (P ^^^ Q ^^^ R ^^^ S))
    obtain ⟨v2, hv2, v21, v22⟩ := u8_ex (mulB s (4 * c + 2))
    have b9 := xr8i hr hal hra
    have b10 := xr8i (k := v2) hra hd2 (by rw [← m2]; exact hv2)
    have b11 := xr8i hr hu hru
    have t2 := fun wx => twice_i (R ^^^ S) ru d2 hru hd2 wx
    obtain ⟨up, hup, up1, up2⟩ := u8_ex (S ^^^ P)
    obtain ⟨d3, hd3, d31, d32⟩ := u8_ex (dbl (S ^^^ P))
    obtain ⟨ua, hua, ua1, ua2⟩ := u8_ex (S ^^^ (P ^^^ Q ^^^ R ^^^ S))
    obtain ⟨v3, hv3, v31, v32⟩ := u8_ex (mulB s (4 * c + 3))
    have b12 := xr8i hu hal hua
    have b13 := xr8i (k := v3) hua hd3 (by rw [← m3]; exact hv3)
    have b14 := xr8i hu hp hup
    have t3 := fun wx => twice_i (S ^^^ P) up d3 hup hd3 wx
    have HV0 := Lib.hid hv0
    have HV1 := Lib.hid hv1
    have HV2 := Lib.hid hv2
    have HV3 := Lib.hid hv3
    have T0 := Lib.hid t0
    have T1 := Lib.hid t1
    have T2 := Lib.hid t2
    have T3 := Lib.hid t3
    clear t0 t1 t2 t3 hv0 hv1 hv2 hv3 hp hq hr hu hpq hpqr hal hd0 hpa hqr hd1 hqa hru hd2 hra hup hd3 hua m0 m1 m2 m3
    obtain ⟨I, hI⟩ : ∃ I, I = 4 * c := ⟨_, rfl⟩
    have HI := Lib.hid hI
    have hat : (c : Int) * 4 = (I : Int) := by omega
    have i1 : IntKind.i64.wrap ((I : Int) + 1) = (I : Int) + 1 := IntWalk.i64_in _ (by omega)
    have i2 : IntKind.i64.wrap ((I : Int) + 2) = (I : Int) + 2 := IntWalk.i64_in _ (by omega)
    have i3 : IntKind.i64.wrap ((I : Int) + 3) = (I : Int) + 3 := IntWalk.i64_in _ (by omega)
    have j0 : (I : Int) < 16 := by omega
    have j1 : (I : Int) + 1 < 16 := by omega
    have j2 : (I : Int) + 2 < 16 := by omega
    have j3 : (I : Int) + 3 < 16 := by omega
    have l1 : 0 ≤ (I : Int) + 1 := by omega
    have l2 : 0 ≤ (I : Int) + 2 := by omega
    have l3 : 0 ≤ (I : Int) + 3 := by omega
    have n1 : ((I : Int) + 1).toNat = I + 1 := by omega
    have n2 : ((I : Int) + 2).toNat = I + 2 := by omega
    have n3 : ((I : Int) + 3).toNat = I + 3 := by omega
    rw [← hI] at h1 c0 c1 c2 c3 HV0 HV1 HV2 HV3
    have hI16 : I + 3 < 16 := by omega
    clear hI
    go_wp2
    go_quiet (fail)
    have h2 : Blk (wr.drewN nq) g 22 (fillAt (mulB s) s I) := h1
    have ho2 : Only g w (wr.drewN nq) := ⟨ho.os, ho.tape, ho.output, ho.size, ho.block⟩
    clear h1 ho c0 c1 c2 c3
    generalize wr.drewN nq = w2 at *
    go_wp2
    obtain ⟨⟨x0, k0⟩, f0, g0, o0⟩ := col_step HS.out h2 (by omega) v0 HV0.out
    have ho3 := ho2.trans o0
    clear ho2 o0 h2
    go_still_tail 12, (by kernel_rfl)
    still_call ((T0.out _).mono fun _ _ ⟨h, h2⟩ => ⟨h, h2.symm⟩)
    repeat still_step
    refine wpStill_nil ?_
    change wpList _ _ _ _ _ w2.drew
    go_wp2
    clear k0 f0
    generalize (w2.setCell ⟨g, I, none⟩ (.int .u8 v0)).drew = w3 at *
    have h3 := g0
    clear g0
    obtain ⟨⟨x1, k1⟩, f1, g1, o1⟩ := col_step HS.out h3 (by omega) v1 HV1.out
    have ho4 := ho3.trans o1
    clear ho3 o1 h3
    go_still_tail 13, (by kernel_rfl)
    still_call ((T1.out _).mono fun _ _ ⟨h, h2⟩ => ⟨h, h2.symm⟩)
    repeat still_step
    refine wpStill_nil ?_
    change wpList _ _ _ _ _ w3.drew
    go_wp2
    clear k1 f1
    generalize (w3.setCell ⟨g, I + 1, none⟩ (.int .u8 v1)).drew = w4 at *
    have h4 := g1
    clear g1
    obtain ⟨⟨x2, k2⟩, f2, g2, o2⟩ := col_step HS.out h4 (by omega) v2 HV2.out
    have ho5 := ho4.trans o2
    clear ho4 o2 h4
    go_still_tail 13, (by kernel_rfl)
    still_call ((T2.out _).mono fun _ _ ⟨h, h2⟩ => ⟨h, h2.symm⟩)
    repeat still_step
    refine wpStill_nil ?_
    change wpList _ _ _ _ _ w4.drew
    go_wp2
    clear k2 f2
    generalize (w4.setCell ⟨g, I + 2, none⟩ (.int .u8 v2)).drew = w5 at *
    have h5 := g2
    clear g2
    obtain ⟨⟨x3, k3⟩, f3, g3, o3⟩ := col_step HS.out h5 (by omega) v3 HV3.out
    have ho6 := ho5.trans o3
    clear ho5 o3 h5
    go_still_tail 13, (by kernel_rfl)
    still_call ((T3.out _).mono fun _ _ ⟨h, h2⟩ => ⟨h, h2.symm⟩)
    repeat still_step
    refine wpStill_nil ?_
    change wpList _ _ _ _ _ w5.drew
    go_wp2
    clear k3 f3
    generalize (w5.setCell ⟨g, I + 3, none⟩ (.int .u8 v3)).drew = w6 at *
    have h6 := g3
    clear g3
    go_roundw
    case rel => exact ⟨c + 1, by omega, by go_num, by rw [show 4 * (c + 1) = 4 * c + 4 by omega, ← HI.out]; exact h6, ho6⟩
    case measure => simp [intOf]; omega
  · obtain rfl : c = 4 := by omega
    rw [show 4 * 4 = 16 from rfl, fillAt_all _ _ _ HS.out] at h1
    go_wp2
    go_end0
    exact ⟨rfl, h1, ho⟩
def BoxRd (w : World) (p : Nat) : Prop := p < w.heap.size ∧ ∀ i, i < 256 → w.cell? ⟨p, i, none⟩ = some (.int .u8 ((boxT.getD i 0).toNat : Int))
theorem BoxRd.below {w w' : World} {p : Nat} (h : BoxRd w p) (hb : Below w.heap.size w w') : BoxRd w' p := ⟨Nat.lt_of_lt_of_le h.1 hb.size, fun i hi => (hb.cell (p := ⟨p, i, none⟩) h.1).trans (h.2 i hi)⟩
theorem BlkV.boxrd {w : World} {p : Nat} {e : TypeId} {ks : List UInt8} (h : BlkV w p e (ciph ks)) : BoxRd w p := ⟨h.lt, fun i hi => (h.cell i).trans (ciph_box hi)⟩
theorem Blk.boxrd {w : World} {p : Nat} {e : TypeId} (h : Blk w p e boxT) : BoxRd w p := ⟨h.lt, fun i hi => h.cell (by rw [boxT_len]; exact hi)⟩

theorem und_a176 : Tryz.prog.underlying 182 = some (.array (Tryz.prog.arrayLen 182) (Tryz.prog.elem 182)) := by kernel_rfl
theorem sz_a176 (w : World) : (sizeOf (Tryz.prog.elem 182)).run Tryz.prog w = .ok 1 w := by kernel_rfl
theorem len_a176 : Tryz.prog.arrayLen 182 = 176 := by kernel_rfl
theorem und_a4 : Tryz.prog.underlying 173 = some (.array 4 5) := by kernel_rfl
theorem u8_inf : (Tryz.prog.info? 5).map (fun i => (i.zero, i.size, i.bytes)) = some (some (.int .u8 0), 1, 1) := by kernel_rfl

set_option maxRecDepth 100000 in
set_option maxHeartbeats 1000000 in
theorem turned_any (p : Nat) (t : List UInt8) (c : UInt8) (ci : Int) (w : World) (ht : t.length = 4) (hci : ci = (c.toNat : Int)) (hbx : BoxRd w p) :
 Calls Tryz.prog 136 #[.pointer (some ⟨p, 0, none⟩), .agg (cells t).toArray, .int .u8 ci] w fun e w' => e = .returned (.agg (cells [sb (t.getD 1 0) ^^^ c, sb (t.getD 2 0), sb (t.getD 3 0), sb (t.getD 0 0)]).toArray) ∧ Below w.heap.size w w' := by
 have hz := zero4
 have hb0 : Below w.heap.size w ((w.alloc (Obj.cells (cells t).toArray 173)).alloc (Obj.cells (cells Z4).toArray 173)) := ((Below.refl _ _).alloc (Nat.le_refl _) _).alloc (by simp) _
 have h0 : Blk ((w.alloc (Obj.cells (cells t).toArray 173)).alloc (Obj.cells (cells Z4).toArray 173)) w.heap.size 173 t := (Blk.new _ _ _).alloc _
 have h1 : Blk ((w.alloc (Obj.cells (cells t).toArray 173)).alloc (Obj.cells (cells Z4).toArray 173)) (w.heap.size + 1) 173 Z4 := Blk.new_at _ _ _ _ _ (by simp) rfl
 have hbx1 := hbx.below hb0
 obtain ⟨w1, hw1⟩ : ∃ w1, w1 = ((w.alloc (Obj.cells (cells t).toArray 173)).alloc (Obj.cells (cells Z4).toArray 173)) := ⟨_, rfl⟩
 rw [← hw1] at hb0 h0 h1 hbx1
 have c0 := h0.cell (j := 0) (by omega)
 have c1 := h0.cell (j := 1) (by omega)
 have c2 := h0.cell (j := 2) (by omega)
 have c3 := h0.cell (j := 3) (by omega)
 obtain ⟨x0, hx0⟩ : ∃ x, x = t.getD 0 0 := ⟨_, rfl⟩
 obtain ⟨x1, hx1⟩ : ∃ x, x = t.getD 1 0 := ⟨_, rfl⟩
 obtain ⟨x2, hx2⟩ : ∃ x, x = t.getD 2 0 := ⟨_, rfl⟩
 obtain ⟨x3, hx3⟩ : ∃ x, x = t.getD 3 0 := ⟨_, rfl⟩
 rw [← hx0, ← hx1, ← hx2, ← hx3]
 rw [← hx0] at c0
 rw [← hx1] at c1
 rw [← hx2] at c2
 rw [← hx3] at c3
 have d0 := hbx1.2 x0.toNat x0.toNat_lt
 have d1 := hbx1.2 x1.toNat x1.toNat_lt
 have d2 := hbx1.2 x2.toNat x2.toNat_lt
 have d3 := hbx1.2 x3.toNat x3.toNat_lt
 have hsb : ∀ x : UInt8, boxT.getD x.toNat 0 = sb x := fun _ => rfl
 rw [hsb] at d0 d1 d2 d3
 obtain ⟨v0, hv0, v01, v02⟩ := u8_ex (sb x0)
 obtain ⟨v1, hv1, v11, v12⟩ := u8_ex (sb x1)
 obtain ⟨v2, hv2, v21, v22⟩ := u8_ex (sb x2)
 obtain ⟨v3, hv3, v31, v32⟩ := u8_ex (sb x3)
 obtain ⟨vc, hvc, vc1, vc2⟩ := u8_ex (sb x1 ^^^ c)
 have bx := xr8i hv1 hci hvc
 rw [← hv0] at d0
 rw [← hv1] at d1
 rw [← hv2] at d2
 rw [← hv3] at d3
 have hfin : cells [sb x1 ^^^ c, sb x2, sb x3, sb x0] = [.int .u8 vc, .int .u8 v2, .int .u8 v3, .int .u8 v0] := by simp only [cells, List.map_cons, List.map_nil, ← hvc, ← hv2, ← hv3, ← hv0]
 rw [hfin]
 obtain ⟨y0, hy0⟩ : ∃ y, y = x0.toNat := ⟨_, rfl⟩
 obtain ⟨y1, hy1⟩ : ∃ y, y = x1.toNat := ⟨_, rfl⟩
 obtain ⟨y2, hy2⟩ : ∃ y, y = x2.toNat := ⟨_, rfl⟩
 obtain ⟨y3, hy3⟩ : ∃ y, y = x3.toNat := ⟨_, rfl⟩
 have l0 : (y0 : Int) < 256 := by have := x0.toNat_lt; omega
 have l1 : (y1 : Int) < 256 := by have := x1.toNat_lt; omega
 have l2 : (y2 : Int) < 256 := by have := x2.toNat_lt; omega
 have l3 : (y3 : Int) < 256 := by have := x3.toNat_lt; omega
 rw [← hy0] at c0 d0
 rw [← hy1] at c1 d1
 rw [← hy2] at c2 d2
 rw [← hy3] at c3 d3
 have hZ : (cells Z4).length = 4 := by rw [length_cells, Z4_len]
 have HZ := Lib.hid hZ
 have HW := Lib.hid hw1
 clear hx0 hx1 hx2 hx3 hy0 hy1 hy2 hy3 hv0 hv1 hv2 hv3 hvc hci hfin hsb ht hbx hbx1 h0 hw1 hZ
 go_enter Tryz.func136, Tryz.ntmps136
 go_wp2
 rw [← HW.out]
 go_still_tail 26, (by kernel_rfl)
 change wpList _ _ _ _ _ w1.drew
 clear c0 c1 c2 c3 d0 d1 d2 d3
 have h1d : Blk w1.drew (w.heap.size + 1) 173 Z4 := h1
 have hbd : Below w.heap.size w w1.drew := hb0.drew
 generalize w1.drew = w2 at *
 go_wp2_with (first
  | ((with_reducible refine wpList_st rfl 173 (.tmp 6) (.tmp 33) rfl (w.heap.size + 1) 0 [.int .u8 vc, .int .u8 v2, .int .u8 v3, .int .u8 v0] rfl rfl 173 _ h1d.v (by rw [HZ.out]; simp) (row4 (by simp)) (by simp [Value.oneCell']) ?_); intro w3 hB3 ho3; rw [splice_all _ _ (by rw [HZ.out]; rfl)] at hB3))
 exact ret_row (by rfl) (by rfl) hB3 (row4 (by simp)) (by rfl) ⟨rfl, hbd.trans (ho3.below (by omega))⟩
end Go.Proofs.YtheefckohnaceaaGreatDoor
