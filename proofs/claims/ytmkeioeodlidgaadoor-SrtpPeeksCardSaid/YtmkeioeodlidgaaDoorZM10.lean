/- Several texts in one: What the document's answers for layer 4 (tenailleref04) answer, and what they leave of memory. What the document's answer for layer 15 (tenailleref15) tells: the tag of ciphered bytes. Contracts of package aes's functions of bytes. Contracts of package aes: the powers of 3, the box. Plain words, for any program: a byte of an array that a slot holds; slices of slices of bytes that read. Contracts of package aes: the box. No statement is proved here. -/
import Derived.Test.YtmkeioeodlidgaaDoorZM9
import Derived.Test.YtmkeioeodlidgaaDoorZShaRef
import Derived.Deep.DeepCutAuto
import Derived.Test.YtmkeioeodlidgaaDoorZM6
import Derived.Test.YtmkeioeodlidgaaDoorProg
import Derived.Test.YtmkeioeodlidgaaDoorZBytes
import Derived.Test.YtmkeioeodlidgaaDoorZAesNum
import Derived.KernelRfl
import Derived.Lib.Hide
import Derived.IntWalk
import Derived.Test.YtmkeioeodlidgaaDoorZAesKey
import Derived.Test.YtmkeioeodlidgaaDoorZM0
import Derived.StillTailTactics
import Derived.Test.YtmkeioeodlidgaaDoorZM1
import Derived.Laws.Cover3
namespace Go.Proofs.YtmkeioeodlidgaaDoor
open Go.RowKit
set_option linter.unusedVariables false

/-- Two rows of the call's own that lie apart. -/
def Apart (v v' : Value) : Prop := ∀ g, v.ownBlock = some g → v'.ownBlock ≠ some g
theorem Apart.right {v v' : Value} (h : Apart v v') : v'.ownBlock = none ∨ v'.ownBlock ≠ v.ownBlock := by
  cases hv : v'.ownBlock with
  | none => exact .inl rfl
  | some g => exact .inr fun e => h g e.symm hv
theorem Apart.left {v v' : Value} (h : Apart v v') : v.ownBlock = none ∨ v.ownBlock ≠ v'.ownBlock := by
  cases hv : v.ownBlock with
  | none => exact .inl rfl
  | some g => exact .inr fun e => h g hv e.symm
theorem Apart.turnL {v v2 v' : Value} {S B : Nat} (h : Apart v v') (hat : v2.ownBlock = v.ownBlock ∨ v2.ownBlock = some S) (hlt : ∀ g, v'.ownBlock = some g → B ≤ g ∧ g < S) : Apart v2 v' := by
  intro g hg e
  rcases hat with hat | hat
  · exact h g (hat ▸ hg) e
  · rw [hat] at hg
    injection hg with hg
    have := (hlt g e).2
    omega
theorem Apart.turnR {v v2 v' : Value} {S B : Nat} (h : Apart v' v) (hat : v2.ownBlock = v.ownBlock ∨ v2.ownBlock = some S) (hlt : ∀ g, v'.ownBlock = some g → B ≤ g ∧ g < S) : Apart v' v2 := by
  intro g hg e
  rcases hat with hat | hat
  · exact h g hg (hat ▸ e)
  · rw [hat] at e
    injection e with e
    have := (hlt g hg).2
    omega
theorem off_base {g o n p : Nat} (h : g + 1 ≤ p) : OffN (some ⟨g, o, none⟩) n p := fun _ => off_ne (by omega)

end Go.Proofs.YtmkeioeodlidgaaDoor

namespace Go.Proofs.YtmkeioeodlidgaaDoor
open Go.RowKit
set_option linter.unusedVariables false

/-- The keys of a way, as one row of bytes. -/
def Wy.ks (s : Wy) : List UInt8 := trio s.key s.auth s.salt
theorem Wy.ks_len {s : Wy} (h : s.fit) : s.ks.length = 50 := by
  obtain ⟨h1, h2, h3, _⟩ := h
  simp [Wy.ks, trio, h1, h2, h3]
theorem ks_auth {s : Wy} (h : s.fit) {i : Nat} (hi : i < 20) : s.ks.getD (16 + i) 0 = s.auth.getD i 0 := by
  obtain ⟨h1, h2, h3, _⟩ := h
  unfold Wy.ks trio
  simp only [List.getD]
  rw [List.getElem?_append_right (by omega), List.getElem?_append_left (by omega), h1, Nat.add_sub_cancel_left]
theorem ks_key {s : Wy} (h : s.fit) {i : Nat} (hi : i < 16) : s.ks.getD i 0 = s.key.getD i 0 := by
  obtain ⟨h1, h2, h3, _⟩ := h
  unfold Wy.ks trio
  simp only [List.getD]
  rw [List.getElem?_append_left (by omega)]
theorem ks_salt {s : Wy} (h : s.fit) {i : Nat} (hi : i < 14) : s.ks.getD (36 + i) 0 = s.salt.getD i 0 := by
  obtain ⟨h1, h2, h3, _⟩ := h
  unfold Wy.ks trio
  simp only [List.getD]
  rw [List.getElem?_append_right (by omega), List.getElem?_append_right (by omega), h1, h2, show 36 + i - 16 - 20 = i by omega]
/-- Where a way's keys lie the middle ones read. -/
theorem rd_auth {s : Wy} (h : s.fit) {W : World} {g o : Nat} {t : TypeId} {cs : List Value} (hB : BlkV W g t cs) (hc : ∀ i, i < 50 → cs[o + i]? = (cells s.ks)[i]?) : RdS W (some ⟨g, o + 16, none⟩) 20 20 s.auth := by
  refine ⟨h.2.1, Nat.le_refl _, by simp [maxLen], fun h0 => (nomatch h0), fun _ => ⟨g, o + 16, rfl, hB.lt, fun j hj => ?_⟩⟩
  rw [hB.cell, Nat.add_assoc, hc (16 + j) (by omega), cells_at (by rw [Wy.ks_len h]; omega), ks_auth h hj]
theorem tag_ten (x : List UInt8) : tagB 10 x = x.take 10 := rfl
end Go.Proofs.YtmkeioeodlidgaaDoor

namespace Go.Proofs.YtmkeioeodlidgaaDoor
open Go.RowKit
set_option linter.unusedVariables false

theorem u8_and_one (a : Nat) (ha : a < 256) : bits BinOp.and IntKind.u8 (a : Int) 1 = ((a % 2 : Nat) : Int) := by
  have h := u8_and_nat a 1 ha (by omega)
  rw [Nat.and_one_is_mod] at h
  exact h
theorem twice_any (x : UInt8) (xi : Int) (w : World) (hx : xi = (x.toNat : Int)) : Calls Tryd.prog 88 #[.int .u8 xi] w fun e w' => e = .returned (.int .u8 ((dbl x).toNat : Int)) ∧ w = w' := by
  have hl := x.toNat_lt
  rw [dbl_nat]
  obtain ⟨n, hn⟩ : ∃ n, n = x.toNat := ⟨_, rfl⟩
  rw [← hn] at hl hx ⊢
  clear hn
  subst hx
  have h1 := u8_xor_nat (n * 2 % 256) (n / 128 * 27) (by omega) (by omega)
  have hb : bits BinOp.xor IntKind.u8 ((n : Int) * 2 % 256) ((n : Int) / 128 * 27) = (dblN n : Nat) := by
    unfold dblN; rw [← h1]; simp
  have H := Lib.hid hb
  clear h1 hb
  have hi : (n : Int) ≤ 255 := by omega
  go_enter Tryd.func88, Tryd.ntmps88
  go_wp2
  rw [H.out]
  go_ret
  exact ⟨rfl, rfl⟩
theorem rotl8_4 (x : Nat) (w : World) (hx : x < 256) : Calls Tryd.prog 89 #[.int .u8 x, .int .i64 4] w fun e w' => e = .returned (.int .u8 (rot8 4 x : Nat)) ∧ w = w' := by
  have h := u8_or_nat (x * 2 ^ 4 % 256) (x / 2 ^ (8 - 4)) (Nat.mod_lt _ (by omega)) (by simp; omega)
  have hb : bits BinOp.or IntKind.u8 ((x : Int) * 16 % 256) ((x : Int) / 16) = (rot8 4 x : Nat) := by
    unfold rot8; rw [← h]; simp
  have hi : (x : Int) ≤ 255 := by omega
  have hk : bits BinOp.and IntKind.u64 4 7 = 4 := by decide
  have HB := Lib.hid hb
  clear h hb
  go_enter Tryd.func89, Tryd.ntmps89
  go_wp2
  rw [HB.out]
  go_ret
  exact ⟨rfl, rfl⟩
theorem rotl8_3 (x : Nat) (w : World) (hx : x < 256) : Calls Tryd.prog 89 #[.int .u8 x, .int .i64 3] w fun e w' => e = .returned (.int .u8 (rot8 3 x : Nat)) ∧ w = w' := by
  have h := u8_or_nat (x * 2 ^ 3 % 256) (x / 2 ^ (8 - 3)) (Nat.mod_lt _ (by omega)) (by simp; omega)
  have hb : bits BinOp.or IntKind.u8 ((x : Int) * 8 % 256) ((x : Int) / 32) = (rot8 3 x : Nat) := by
    unfold rot8; rw [← h]; simp
  have hi : (x : Int) ≤ 255 := by omega
  have hk : bits BinOp.and IntKind.u64 3 7 = 3 := by decide
  have HB := Lib.hid hb
  clear h hb
  go_enter Tryd.func89, Tryd.ntmps89
  go_wp2
  rw [HB.out]
  go_ret
  exact ⟨rfl, rfl⟩
theorem rotl8_2 (x : Nat) (w : World) (hx : x < 256) : Calls Tryd.prog 89 #[.int .u8 x, .int .i64 2] w fun e w' => e = .returned (.int .u8 (rot8 2 x : Nat)) ∧ w = w' := by
  have h := u8_or_nat (x * 2 ^ 2 % 256) (x / 2 ^ (8 - 2)) (Nat.mod_lt _ (by omega)) (by simp; omega)
  have hb : bits BinOp.or IntKind.u8 ((x : Int) * 4 % 256) ((x : Int) / 64) = (rot8 2 x : Nat) := by
    unfold rot8; rw [← h]; simp
  have hi : (x : Int) ≤ 255 := by omega
  have hk : bits BinOp.and IntKind.u64 2 7 = 2 := by decide
  have HB := Lib.hid hb
  clear h hb
  go_enter Tryd.func89, Tryd.ntmps89
  go_wp2
  rw [HB.out]
  go_ret
  exact ⟨rfl, rfl⟩
theorem rotl8_1 (x : Nat) (w : World) (hx : x < 256) : Calls Tryd.prog 89 #[.int .u8 x, .int .i64 1] w fun e w' => e = .returned (.int .u8 (rot8 1 x : Nat)) ∧ w = w' := by
  have h := u8_or_nat (x * 2 ^ 1 % 256) (x / 2 ^ (8 - 1)) (Nat.mod_lt _ (by omega)) (by simp; omega)
  have hb : bits BinOp.or IntKind.u8 ((x : Int) * 2 % 256) ((x : Int) / 128) = (rot8 1 x : Nat) := by
    unfold rot8; rw [← h]; simp
  have hi : (x : Int) ≤ 255 := by omega
  have hk : bits BinOp.and IntKind.u64 1 7 = 1 := by decide
  have HB := Lib.hid hb
  clear h hb
  go_enter Tryd.func89, Tryd.ntmps89
  go_wp2
  rw [HB.out]
  go_ret
  exact ⟨rfl, rfl⟩
theorem mixed_nat (n : Nat) (w : World) (hl : n < 256) : Calls Tryd.prog 85 #[.int .u8 n] w fun e w' => e = .returned (.int .u8 (mixN n : Nat)) ∧ w = w' := by
  have h4 := rotl8_4 n w hl
  have h3 := rotl8_3 n w hl
  have h2 := rotl8_2 n w hl
  have h1 := rotl8_1 n w hl
  have l4 := rot8_lt 4 n (by omega) hl
  have l3 := rot8_lt 3 n (by omega) hl
  have l2 := rot8_lt 2 n (by omega) hl
  have l1 := rot8_lt 1 n (by omega) hl
  have hm : mixN n = n ^^^ rot8 4 n ^^^ rot8 3 n ^^^ rot8 2 n ^^^ rot8 1 n ^^^ 99 := rfl
  obtain ⟨a, ha⟩ : ∃ a, a = rot8 4 n := ⟨_, rfl⟩
  obtain ⟨b, hb⟩ : ∃ a, a = rot8 3 n := ⟨_, rfl⟩
  obtain ⟨c, hc⟩ : ∃ a, a = rot8 2 n := ⟨_, rfl⟩
  obtain ⟨d, hd⟩ : ∃ a, a = rot8 1 n := ⟨_, rfl⟩
  rw [← ha] at h4 l4 hm
  rw [← hb] at h3 l3 hm
  rw [← hc] at h2 l2 hm
  rw [← hd] at h1 l1 hm
  clear ha hb hc hd
  have x8 : ∀ {a b : Nat}, a < 256 → b < 256 → a ^^^ b < 256 := fun ha hb => Nat.xor_lt_two_pow (n := 8) ha hb
  have hx : bits BinOp.xor IntKind.u8 (bits BinOp.xor IntKind.u8 (bits BinOp.xor IntKind.u8 (bits BinOp.xor IntKind.u8 (bits BinOp.xor IntKind.u8 (n : Int) (a : Int)) (b : Int)) (c : Int)) (d : Int)) 99 = (mixN n : Nat) := by
    rw [u8_xor_nat _ _ hl l4, u8_xor_nat _ _ (x8 hl l4) l3, u8_xor_nat _ _ (x8 (x8 hl l4) l3) l2, u8_xor_nat _ _ (x8 (x8 (x8 hl l4) l3) l2) l1]
    have := u8_xor_nat (n ^^^ a ^^^ b ^^^ c ^^^ d) 99 (x8 (x8 (x8 (x8 hl l4) l3) l2) l1) (by omega)
    rw [hm]
    exact this
  have HX := Lib.hid hx
  have H4 := Lib.hid h4
  have H3 := Lib.hid h3
  have H2 := Lib.hid h2
  have H1 := Lib.hid h1
  clear hx h4 h3 h2 h1 hm x8 l4 l3 l2 l1
  go_enter Tryd.func85, Tryd.ntmps85
  go_wp2_with (first
    | (go_at_call 89; ((with_reducible refine (Hid.out H4).mono ?_); rintro e w' ⟨rfl, rfl⟩))
    | (go_at_call 89; ((with_reducible refine (Hid.out H3).mono ?_); rintro e w' ⟨rfl, rfl⟩))
    | (go_at_call 89; ((with_reducible refine (Hid.out H2).mono ?_); rintro e w' ⟨rfl, rfl⟩))
    | (go_at_call 89; ((with_reducible refine (Hid.out H1).mono ?_); rintro e w' ⟨rfl, rfl⟩)))
  rw [HX.out]
  go_ret
  exact ⟨rfl, rfl⟩
theorem mixed_any (x : UInt8) (xi : Int) (w : World) (hx : xi = (x.toNat : Int)) : Calls Tryd.prog 85 #[.int .u8 xi] w fun e w' => e = .returned (.int .u8 ((mx x).toNat : Int)) ∧ w = w' := by
  subst hx
  rw [mx_nat]
  exact mixed_nat x.toNat w x.toNat_lt
theorem x8 {a b : Nat} (ha : a < 256) (hb : b < 256) : a ^^^ b < 256 := Nat.xor_lt_two_pow (n := 8) ha hb

end Go.Proofs.YtmkeioeodlidgaaDoor

namespace Go.Proofs.YtmkeioeodlidgaaDoor
open Go.RowKit
set_option linter.unusedVariables false

theorem row256_ : RowTy Tryd.prog 139 256 := ⟨_, Tryd.underlying139, rfl, by kernel_rfl⟩
theorem row256 {n : Nat} (h : n = 256) : RowTy Tryd.prog 139 n := h ▸ row256_
theorem row255_ : RowTy Tryd.prog 155 255 := ⟨_, Tryd.underlying155, rfl, by kernel_rfl⟩
theorem row255 {n : Nat} (h : n = 255) : RowTy Tryd.prog 155 n := h ▸ row255_
theorem row176_ : RowTy Tryd.prog 141 176 := ⟨_, Tryd.underlying141, rfl, by kernel_rfl⟩
theorem row176 {n : Nat} (h : n = 176) : RowTy Tryd.prog 141 n := h ▸ row176_
theorem row16_ : RowTy Tryd.prog 34 16 := ⟨_, Tryd.underlying34, rfl, by kernel_rfl⟩
theorem row16 {n : Nat} (h : n = 16) : RowTy Tryd.prog 34 n := h ▸ row16_
theorem row4_ : RowTy Tryd.prog 157 4 := ⟨_, Tryd.underlying157, rfl, by kernel_rfl⟩
theorem row4 {n : Nat} (h : n = 4) : RowTy Tryd.prog 157 n := h ▸ row4_
/-- Zeros, by names that the walk leaves alone. -/
def Z256 : List UInt8 := List.replicate 256 0
def Z255 : List UInt8 := List.replicate 255 0
def Z176 : List UInt8 := List.replicate 176 0
def Z16 : List UInt8 := List.replicate 16 0
def Z4 : List UInt8 := List.replicate 4 0
theorem Z256_len : Z256.length = 256 := by rw [Z256, List.length_replicate]
theorem Z255_len : Z255.length = 255 := by rw [Z255, List.length_replicate]
theorem Z176_len : Z176.length = 176 := by rw [Z176, List.length_replicate]
theorem Z16_len : Z16.length = 16 := by rw [Z16, List.length_replicate]
theorem Z4_len : Z4.length = 4 := by rw [Z4, List.length_replicate]
theorem zero256 (w : World) : (zeroValue 139).run Tryd.prog w = .ok (.agg (cells Z256).toArray) w := by kernel_rfl
theorem zero255 (w : World) : (zeroValue 155).run Tryd.prog w = .ok (.agg (cells Z255).toArray) w := by kernel_rfl
theorem zero176 (w : World) : (zeroValue 141).run Tryd.prog w = .ok (.agg (cells Z176).toArray) w := by kernel_rfl
theorem zero16 (w : World) : (zeroValue 34).run Tryd.prog w = .ok (.agg (cells Z16).toArray) w := by kernel_rfl
theorem zero4 (w : World) : (zeroValue 157).run Tryd.prog w = .ok (.agg (cells Z4).toArray) w := by kernel_rfl

theorem xr8 (a x : UInt8) : bits BinOp.xor IntKind.u8 (a.toNat : Int) (x.toNat : Int) = ((a ^^^ x).toNat : Int) := by
  rw [u8_xor_nat _ _ a.toNat_lt x.toNat_lt, UInt8.toNat_xor]
theorem cells_arr (bs : List UInt8) (j : Nat) (h : j < bs.length) : (cells bs).toArray[j]? = some (.int .u8 ((bs.getD j 0).toNat : Int)) := by
  rw [List.getElem?_toArray]; exact cells_at h

set_option maxRecDepth 100000 in
set_option maxHeartbeats 1000000 in
theorem powers_any (w : World) : Calls Tryd.prog 86 #[] w fun e w' => e = .returned (.agg (cells powT).toArray) ∧ Below w.heap.size w w' := by
  have hz := zero255
  have h0 : Blk ((w.alloc (Obj.cells (cells Z255).toArray 155)).alloc (Obj.cells (cells Z255).toArray 155)) w.heap.size 155 Z255 := (Blk.new _ _ _).alloc _
  have h1 : Blk ((w.alloc (Obj.cells (cells Z255).toArray 155)).alloc (Obj.cells (cells Z255).toArray 155)) (w.heap.size + 1) 155 (fillAt pw Z255 0) := by
    rw [fillAt_zero]; exact Blk.new_at _ _ _ _ _ (by simp) rfl
  have hb0 : Below w.heap.size w ((w.alloc (Obj.cells (cells Z255).toArray 155)).alloc (Obj.cells (cells Z255).toArray 155)) := ((Below.refl _ _).alloc (Nat.le_refl _) _).alloc (by simp) _
  have hp0 : (1 : Int) = ((pw 0).toNat : Int) := by rw [pw_zero]; rfl
  have HP0 := Lib.hid hp0
  clear hp0
  go_enter Tryd.func86, Tryd.ntmps86
  go_wp2
  go_loopw [2, 4] (fun vp vi wr => ∃ k : Nat, k ≤ 255 ∧ (k < 255 → vp = .int .u8 ((pw k).toNat : Int)) ∧ (∃ p : Int, vp = .int .u8 p) ∧ vi = .int .i64 k ∧ Blk wr w.heap.size 155 Z255 ∧ Blk wr (w.heap.size + 1) 155 (fillAt pw Z255 k) ∧ Below w.heap.size w wr) (fun _ i _ => 255 - (intOf i).toNat)
  case atStart => exact ⟨0, by omega, fun _ => by rw [← HP0.out], ⟨1, rfl⟩, rfl, h0, h1, hb0⟩
  case round =>
    clear h0 h1 hb0
    obtain ⟨k, hk, hvp, ⟨p, hp⟩, rfl, h0, h1, hb⟩ := hrel
    by_cases hlt : k < 255
    · have := hvp hlt
      subst hp
      injection this with _ hpe
      subst hpe
      clear hvp
      have hl := fillAt_len pw Z255 k (by rw [Z255_len]; omega)
      have hcell := h1.cell (j := k) (by rw [hl, Z255_len]; exact hlt)
      have hfr := h1.frozen k
      have hs := h1.set_ k (pw k)
      rw [fillAt_step pw Z255 k (by rw [Z255_len]; exact hlt)] at hs
      have hs0 := h0.far (p := ⟨w.heap.size + 1, k, none⟩) (by simp) (.int .u8 ((pw k).toNat : Int))
      have hbs := hb.setCell (p := ⟨w.heap.size + 1, k, none⟩) (by simp) (.int .u8 ((pw k).toNat : Int))
      have hx := xr8 (pw k) (dbl (pw k))
      have hnx : k + 1 < 255 → pw (k + 1) = pw k ^^^ dbl (pw k) := fun h => pw_succ k (by omega)
      have htw := fun wx => twice_any (pw k) ((pw k).toNat : Int) wx rfl
      obtain ⟨P, hP⟩ : ∃ P, P = pw k := ⟨_, rfl⟩
      rw [← hP] at hs hs0 hbs hx hnx htw ⊢
      obtain ⟨y, hy⟩ : ∃ y : Int, y = (((fillAt pw Z255 k).getD k 0).toNat : Int) := ⟨_, rfl⟩
      rw [← hy] at hcell
      obtain ⟨D, hD⟩ : ∃ D, D = dbl P := ⟨_, rfl⟩
      rw [← hD] at hx hnx htw
      have HT := Lib.hid htw
      have HN := Lib.hid hnx
      have HX := Lib.hid hx
      have hPl := P.toNat_lt
      have hDl := D.toNat_lt
      clear htw hnx hx hl hP hy hD
      go_wp2_with (first
        | (go_at_call 88; ((with_reducible refine (Hid.out HT _).mono ?_); rintro e w' ⟨rfl, rfl⟩)))
      go_roundw
      case rel => exact ⟨k + 1, by omega, fun h => by rw [HN.out h, ← HX.out], ⟨_, rfl⟩, by go_num, hs0, hs, hbs⟩
      case measure => simp [intOf]; omega
    · obtain rfl : k = 255 := by omega
      have hpow : fillAt pw Z255 255 = powT := by rw [fillAt_all pw Z255 255 Z255_len]; exact list_tab powT powT_len
      rw [hpow] at h1
      have hL : (cells powT).length = 255 := by rw [length_cells, powT_len]
      have hZL : (cells Z255).length = 255 := by rw [length_cells, Z255_len]
      have HL := Lib.hid hL
      have HZL := Lib.hid hZL
      subst hp
      clear hpow hvp hL hZL
      go_wp2_with (first
        | (with_reducible refine wpList_ld rfl 155 (.tmp 1) rfl (w.heap.size + 1) 0 rfl (cells powT) (h1.v.range 0 _ (by simp)) (row255 HL.out) ?_)
        | ((with_reducible refine wpList_st rfl 155 (.tmp 0) (.tmp 15) rfl w.heap.size 0 (cells powT) rfl rfl 155 _ h0.v (by rw [HL.out, HZL.out]; omega) (row255 HL.out) (cells_one _) ?_); intro w2 hB2 ho2))
      rw [splice_all _ _ (by rw [HL.out, HZL.out])] at hB2
      exact ret_row (by rfl) (by rfl) hB2 (row255 HL.out) (by rfl) ⟨rfl, hb.trans (ho2.below (Nat.le_refl _))⟩
end Go.Proofs.YtmkeioeodlidgaaDoor

namespace Go.Proofs.YtmkeioeodlidgaaDoor
open Go.RowKit

theorem run_index_cells {P : Program} (t e : TypeId) (n : Nat) (h : P.underlying t = some (.array n e)) (he : P.underlying e = some (.int .u8)) (hs : ∀ w, (sizeOf e).run P w = .ok 1 w) (bs : List UInt8) (hl : bs.length = n) (k : Nat) (hk : k < n) (w : World) :
    (Instr.index t (.agg (cells bs).toArray) (.int .i64 (k : Int))).run P w = .ok (.int .u8 ((bs.getD k 0).toNat : Int)) w := by
  have hc : (cells bs).toArray[k]? = some (.int .u8 ((bs.getD k 0).toNat : Int)) := by
    rw [List.getElem?_toArray]; exact cells_at (by omega)
  have h1 : 0 ≤ (k : Int) ∧ (k : Int) < (n : Int) := by omega
  simp only [Instr.index, asIntOf, Sem.run_bind, Sem.run_pure, Result.andThen_ok, run_underlying h, h1, and_self, if_true, hs, part, isAgg, run_underlying he, Int.toNat_natCast, Nat.mul_one, hc]
  simp
section
variable {P : Program} {w : World} {ops : Array Oper} {rest : List Oper} {op : Oper} {a : Act} {Q : Exit → Act → World → Prop}
/-- 'arr[l:h]' of an array that lies at o of block g. -/
theorem wpList_acut2 (hgd : op.guard = none) (t : TypeId) (x lo hi : Operand) (ho : op.op = .slice t x (some lo) (some hi) none) (ht : P.underlying t = some (.array (P.arrayLen t) (P.elem t))) (hs : ∀ w, (sizeOf (P.elem t)).run P w = .ok 1 w)
    (N : Nat) (hN : P.arrayLen t = N) (g o : Nat) (hx : a.eval x = .pointer (some ⟨g, o, none⟩)) (l h : Nat) (i j : Int) (hlo : a.eval lo = .int .i64 i) (hhi : a.eval hi = .int .i64 j) (hi1 : i = (l : Int)) (hj1 : j = (h : Int)) (hlh : l ≤ h) (hl : l < N) (hh : h ≤ N)
    (hK : wpList P ops Q rest (a.put op.dst (.slice (some ⟨g, o + l, none⟩) (h - l) (N - l))) w) : wpList P ops Q (op :: rest) a w := by
  subst hi1; subst hj1
  refine wpList_plain hgd fun K hK2 => ?_
  unfold Oper.wp execOp
  simp only [ho, hx, Option.map_some, Option.map_none, hlo, hhi, Sem.run_bind, run_sliceAt_array_lh w t ⟨g, o, none⟩ ht .i64 .i64 (l : Int) (h : Int) (by omega) (by omega) (by omega), hs, Result.andThen_ok, Sem.run_pure, slicedAt, Int.toNat_natCast, hN, add_lit, Nat.mul_one]
  rw [if_neg (by omega)]
  exact hK2 _ _ hK
/-- A slice as an array's address. -/
theorem wpList_toarr (hgd : op.guard = none) (arr e : TypeId) (n : Nat) (x : Operand) (ho : op.op = .sliceToArrayPointer arr x) (ht : P.underlying arr = some (.array n e)) (A : Option Addr) (len cap : Nat) (hx : a.eval x = .slice A len cap) (hn : n ≤ len)
    (hK : wpList P ops Q rest (a.put op.dst (.pointer A)) w) : wpList P ops Q (op :: rest) a w := by
  refine wpList_plain hgd fun K hK2 => ?_
  unfold Oper.wp execOp
  simp only [ho, hx, Sem.run_bind, run_arrayAt _ arr e n A len cap ht hn, Result.andThen_ok, Sem.run_pure]
  exact hK2 _ _ hK
/-- A struct or an array made of one part. -/
theorem wpList_built1 (hgd : op.guard = none) (t : TypeId) (i : Nat) (x : Operand) (ho : op.op = .build t #[(i, x)]) (u v : Value) (hx : a.eval x = u) (hr : (Instr.build t #[(i, u)]).run P w = .ok v w)
    (hK : wpList P ops Q rest (a.put op.dst v) w) : wpList P ops Q (op :: rest) a w := by
  refine wpList_plain hgd fun K hK2 => ?_
  unfold Oper.wp execOp
  simp only [ho, List.map_toArray, List.map_cons, List.map_nil, hx, Sem.run_bind, hr, Result.andThen_ok, Sem.run_pure]
  exact hK2 _ _ hK
end
end Go.Proofs.YtmkeioeodlidgaaDoor

namespace Go.Proofs.YtmkeioeodlidgaaDoor
open Go.RowKit
set_option linter.unusedVariables false

theorem und_u8 : Tryd.prog.underlying 5 = some (.int .u8) := by kernel_rfl
theorem sz_u8 (w : World) : (sizeOf 5).run Tryd.prog w = .ok 1 w := by kernel_rfl
theorem index255 (k : Nat) (hk : k < 255) (w : World) : (Instr.index 155 (.agg (cells powT).toArray) (.int .i64 (k : Int))).run Tryd.prog w = .ok (.int .u8 ((pw k).toNat : Int)) w :=
  run_index_cells 155 5 255 (by kernel_rfl) und_u8 sz_u8 powT powT_len k hk w
/-- The first store into the box. -/
theorem box_zero {w : World} {g : Nat} {e : TypeId} (h : Blk w g e Z256) : Blk (w.setCell ⟨g, 0, none⟩ (.int .u8 ((mx 0).toNat : Int))) g e (boxAt 0) := h.set_ 0 (mx 0)

set_option maxRecDepth 100000 in
set_option maxHeartbeats 1000000 in
theorem box_any (w : World) : Calls Tryd.prog 77 #[] w fun e w' => e = .returned (.agg (cells boxT).toArray) ∧ Below w.heap.size w w' := by
  have hz := zero256
  have hz2 := zero255
  have hmx := fun wx => mixed_any 0 0 wx rfl
  have HM := Lib.hid hmx
  have hset : (cells Z256).set 0 (.int .u8 ((mx 0).toNat : Int)) = cells (boxAt 0) := cells_set Z256 0 (mx 0)
  have HS := Lib.hid hset
  have k0 : Blk ((w.alloc (Obj.cells (cells Z256).toArray 139)).alloc (Obj.cells (cells (boxAt 0)).toArray 139)) w.heap.size 139 Z256 := (Blk.new _ _ _).alloc _
  have k1 : Blk ((w.alloc (Obj.cells (cells Z256).toArray 139)).alloc (Obj.cells (cells (boxAt 0)).toArray 139)) (w.heap.size + 1) 139 (boxAt 0) := Blk.new_at _ _ _ _ _ (by simp) rfl
  have kb : Below w.heap.size w ((w.alloc (Obj.cells (cells Z256).toArray 139)).alloc (Obj.cells (cells (boxAt 0)).toArray 139)) := ((Below.refl _ _).alloc (Nat.le_refl _) _).alloc (by simp) _
  obtain ⟨w2, hw2⟩ : ∃ w2, w2 = ((w.alloc (Obj.cells (cells Z256).toArray 139)).alloc (Obj.cells (cells (boxAt 0)).toArray 139)) := ⟨_, rfl⟩
  rw [← hw2] at k0 k1 kb
  have HW2 := Lib.hid hw2
  clear hmx hset hw2
  have hL : (cells powT).length = 255 := by rw [length_cells, powT_len]
  have HL := Lib.hid hL
  have hZ : (cells Z255).length = 255 := by rw [length_cells, Z255_len]
  have HZ := Lib.hid hZ
  clear hL hZ
  go_enter Tryd.func77, Tryd.ntmps77
  go_wp2_with (first
    | (go_at_call 85; ((with_reducible refine (Hid.out HM _).mono ?_); rintro e w' ⟨rfl, rfl⟩))
    | (go_at_call 86; rw [HS.out, ← HW2.out]; ((with_reducible refine (powers_any _).mono ?_); rintro e w3 ⟨rfl, hb3⟩; have j0 := (k0.below hb3 k0.lt).alloc (.cells (cells Z255).toArray 155); have j1 := (k1.below hb3 k1.lt).alloc (.cells (cells Z255).toArray 155); have jl := k1.lt; have jsz := hb3.size; have jb := (kb.trans (hb3.mono kb.size)).alloc (by have := kb.size; omega) (.cells (cells Z255).toArray 155); have j2 := Blk.new_at w3 w3.heap.size 155 Z255 _ rfl rfl))
    | ((with_reducible refine wpList_st rfl 155 (.tmp 2) (.tmp 7) rfl w3.heap.size 0 (cells powT) rfl rfl 155 _ j2.v (by rw [HL.out, HZ.out]; omega) (row255 HL.out) (cells_one _) ?_); intro w4 hB4 ho4; rw [splice_all _ _ (by rw [HL.out, HZ.out])] at hB4; have i0 := Blk.only j0 ho4 (by omega); have i1 := Blk.only j1 ho4 (by omega); have ib := jb.trans (ho4.below (by have := kb.size; omega)))
    | (with_reducible refine wpList_ld rfl 155 (.tmp 2) rfl w3.heap.size 0 rfl (cells powT) (hB4.range 0 _ (by simp)) (row255 HL.out) ?_))
  have hg3 : w.heap.size + 1 < w3.heap.size := by omega
  clear jb j0 j1 j2 jsz jl ho4 k0 k1 kb hb3 HW2 HS
  obtain ⟨g3, hg⟩ : ∃ g3, g3 = w3.heap.size := ⟨_, rfl⟩
  rw [← hg] at hB4 hg3 ⊢
  clear hg
  have hP : Blk w4 g3 155 powT := hB4
  clear hB4
  go_loopw [9] (fun vi wr => ∃ k : Nat, k ≤ 255 ∧ vi = .int .i64 k ∧ Blk wr w.heap.size 139 Z256 ∧ Blk wr (w.heap.size + 1) 139 (boxAt k) ∧ Blk wr g3 155 powT ∧ Below w.heap.size w wr) (fun i _ => 255 - (intOf i).toNat)
  case atStart => exact ⟨0, by omega, rfl, i0, i1, hP, ib⟩
  case round =>
    clear i0 i1 hP ib
    obtain ⟨k, hk, rfl, g0, g1, g2, gb⟩ := hrel
    by_cases hlt : k < 255
    · have hix := index255 k hlt
      obtain ⟨M, hM⟩ : ∃ M, M = (255 - k) % 255 := ⟨_, rfl⟩
      have hMc : (255 - (k : Int)) % 255 = (M : Int) := by omega
      have hMl : M < 255 := by omega
      have hcM := g2.cell (j := M) (by rw [powT_len]; exact hMl)
      have hpw : (powT.getD M 0) = pw M := rfl
      rw [hpw] at hcM
      have hmx := fun wx => mixed_any (pw M) ((pw M).toNat : Int) wx rfl
      have hnx : boxAt (k + 1) = (boxAt k).set (pw k).toNat (mx (pw M)) := by rw [boxAt, hM]
      have hpl := (pw k).toNat_lt
      have hcell := g1.cell (j := (pw k).toNat) (by rw [boxAt_len]; exact hpl)
      have hfr := g1.frozen (pw k).toNat
      have s1 := g1.set_ (pw k).toNat (mx (pw M))
      rw [← hnx] at s1
      have s0 := g0.far (p := ⟨w.heap.size + 1, (pw k).toNat, none⟩) (by simp) (.int .u8 ((mx (pw M)).toNat : Int))
      have s2 := g2.far (p := ⟨w.heap.size + 1, (pw k).toNat, none⟩) (by simp; omega) (.int .u8 ((mx (pw M)).toNat : Int))
      have sb := gb.setCell (p := ⟨w.heap.size + 1, (pw k).toNat, none⟩) (by simp) (.int .u8 ((mx (pw M)).toNat : Int))
      obtain ⟨y, hy⟩ : ∃ y : Int, y = (((boxAt k).getD (pw k).toNat 0).toNat : Int) := ⟨_, rfl⟩
      rw [← hy] at hcell
      obtain ⟨p, hp⟩ : ∃ p, p = (pw k).toNat := ⟨_, rfl⟩
      rw [← hp] at hcell hfr s1 s0 s2 sb hpl hix
      have HMX := Lib.hid hmx
      clear hmx hnx hy hp hpw hM
      go_wp2_with (first
        | (go_at_call 85; ((with_reducible refine (Hid.out HMX _).mono ?_); rintro e w' ⟨rfl, rfl⟩)))
      go_roundw
      case rel => exact ⟨k + 1, by omega, by go_num, s0, s1, s2, sb⟩
      case measure => simp [intOf]; omega
    · obtain rfl : k = 255 := by omega
      rw [boxAt_all] at g1
      have hBL : (cells boxT).length = 256 := by rw [length_cells, boxT_len]
      have hZL : (cells Z256).length = 256 := by rw [length_cells, Z256_len]
      have HBL := Lib.hid hBL
      have HZL := Lib.hid hZL
      clear hBL hZL
      go_wp2_with (first
        | (with_reducible refine wpList_ld rfl 139 (.tmp 1) rfl (w.heap.size + 1) 0 rfl (cells boxT) (g1.v.range 0 _ (by simp)) (row256 HBL.out) ?_)
        | ((with_reducible refine wpList_st rfl 139 (.tmp 0) (.tmp 22) rfl w.heap.size 0 (cells boxT) rfl rfl 139 _ g0.v (by rw [HBL.out, HZL.out]; omega) (row256 HBL.out) (cells_one _) ?_); intro w5 hB5 ho5))
      rw [splice_all _ _ (by rw [HBL.out, HZL.out])] at hB5
      exact ret_row (by rfl) (by rfl) hB5 (row256 HBL.out) (by rfl) ⟨rfl, gb.trans (ho5.below (Nat.le_refl _))⟩
end Go.Proofs.YtmkeioeodlidgaaDoor
