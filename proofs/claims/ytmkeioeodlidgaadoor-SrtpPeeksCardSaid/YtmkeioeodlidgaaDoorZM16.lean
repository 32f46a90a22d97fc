/- Several texts in one: Plain words, for any program: objects that have blocks of their own, and what a call on one leaves of others. What the document's answer for layer 15 (tenailleref15) tells: bytes ciphered, with their tag. Contracts of package window: what was there, the highest one, how many, and whether an index is fresh. Contracts of package window: Fresh, Mark. Plain words, for any program: rows of int64, as lists; a slice of them that reads; a row of the call's own. What the document's answers for layer 8 (tenailleref08) answer: contracts. What the document's answers for layer 8 (tenailleref08) answer: contracts of Mark, Count. No statement is proved here. -/
import Derived.Test.YtmkeioeodlidgaaDoorZM5
import Derived.Test.YtmkeioeodlidgaaDoorZM10
import Derived.Test.YtmkeioeodlidgaaDoorZM15
import Derived.Test.YtmkeioeodlidgaaDoorZM14
import Derived.Test.YtmkeioeodlidgaaDoorZM0
import Derived.Test.YtmkeioeodlidgaaDoorProg
import Derived.Test.YtmkeioeodlidgaaDoorZM4
import Derived.KernelRfl
import Derived.Lib.Hide
import Derived.IntWalk
import Derived.Laws.Bits128
import Derived.BigQuiet
import Derived.StillTailTactics
import Derived.Test.YtmkeioeodlidgaaDoorZM1
import Derived.LoopTactic
namespace Go.Proofs.YtmkeioeodlidgaaDoor
open Go.RowKit
set_option linter.unusedVariables false

/-- From w to w2 blocks of F alone have turned, of those that lay; blocks may be new. -/
structure Fr (F : Nat → Prop) (w w2 : World) : Prop where
  os : w2.os = w.os
  tape : w2.tape = w.tape
  output : w2.output = w.output
  size : w.heap.size ≤ w2.heap.size
  keep : ∀ k, k < w.heap.size → ¬ F k → w2.heap[k]? = w.heap[k]?
section
variable {F G : Nat → Prop} {w w2 w3 : World} {B : Nat}
theorem Fr.of_below (h : Below w.heap.size w w2) : Fr F w w2 := ⟨h.os, h.tape, h.output, h.size, fun k hk _ => h.block k hk⟩
theorem Fr.refl (F : Nat → Prop) (w : World) : Fr F w w := .of_below (Below.refl _ _)
theorem Fr.of_only {g : Nat} (h : Only g w w2) (hg : F g) : Fr F w w2 := ⟨h.os, h.tape, h.output, by rw [h.size]; exact Nat.le_refl _, fun k _ hk => h.block k (fun e => hk (by rw [e]; exact hg))⟩
theorem Fr.of_grown {row : Option Nat} (h : w.grownBy w2 row) (hr : ∀ p, row = some p → F p) : Fr F w w2 := ⟨h.os, h.tape, h.output, h.size, fun k hk hn => h.block k hk (fun e => hn (hr k e.symm))⟩
/-- Two steps, the second one on blocks of the first one's or new ones. -/
theorem Fr.trans (h : Fr F w w2) (k : Fr G w2 w3) (hG : ∀ i, G i → F i ∨ w.heap.size ≤ i) : Fr F w w3 :=
  ⟨k.os.trans h.os, k.tape.trans h.tape, k.output.trans h.output, Nat.le_trans h.size k.size, fun i hi hn => (k.keep i (Nat.lt_of_lt_of_le hi h.size) (fun hg => by
    rcases hG i hg with h1 | h1
    · exact hn h1
    · omega)).trans (h.keep i hi hn)⟩
theorem Fr.mono (h : Fr F w w2) (hF : ∀ i, F i → G i) : Fr G w w2 := ⟨h.os, h.tape, h.output, h.size, fun k hk hn => h.keep k hk (fun hf => hn (hF k hf))⟩
theorem Fr.then (h : Fr F w w2) (hb : Below w2.heap.size w2 w3) : Fr F w w3 := h.trans (G := fun _ => False) (.of_below hb) (fun _ hf => hf.elim)
theorem Fr.behind (hb : Below w.heap.size w w2) (h : Fr F w2 w3) : Fr F w w3 := (Fr.of_below (F := F) hb).trans h (fun i hi => .inl hi)
/-- What lies below all of F's blocks is as it was. -/
theorem Fr.below (h : Fr F w w2) (hF : ∀ k, F k → B ≤ k) (hB : B ≤ w.heap.size) : Below B w w2 := ⟨h.os, h.tape, h.output, h.size, fun k hk => h.keep k (by omega) (fun hf => by have := hF k hf; omega)⟩
theorem Fr.cell (h : Fr F w w2) {a : Addr} (ha : a.block < w.heap.size) (hn : ¬ F a.block) : w2.cell? a = w.cell? a := World.cell?_of_block (h.keep _ ha hn)
theorem BlkV.fr {g : Nat} {e : TypeId} {cs : List Value} (h : BlkV w g e cs) (hf : Fr F w w2) (hn : ¬ F g) : BlkV w2 g e cs := (hf.keep g h.lt hn).trans h
theorem Blk.fr {g : Nat} {e : TypeId} {bs : List UInt8} (h : Blk w g e bs) (hf : Fr F w w2) (hn : ¬ F g) : Blk w2 g e bs := (hf.keep g h.lt hn).trans h
theorem RdS.fr {A : Option Addr} {n c : Nat} {bs : List UInt8} (h : RdS w A n c bs) (hf : Fr F w w2) (hn : 0 < n → ∀ ad, A = some ad → ¬ F ad.block) : RdS w2 A n c bs := by
  refine ⟨h.1, h.2.1, h.2.2.1, h.2.2.2.1, fun h0 => ?_⟩
  obtain ⟨b, off, hA, hlt, hc⟩ := h.2.2.2.2 h0
  exact ⟨b, off, hA, Nat.lt_of_lt_of_le hlt hf.size, fun j hj => (hf.cell (a := ⟨b, off + j, none⟩) hlt (show ¬ F b from hn h0 ⟨b, off, none⟩ hA)).trans (hc j hj)⟩
theorem own_fr {base s m : Nat} {e : TypeId} {v : Value} {xs : List Value} (h : w.ownsRow base e s v m xs) (hf : Fr F w w2) (hn : ∀ g, v.ownBlock = some g → ¬ F g) : w2.ownsRow base e s v m xs := by
  refine ⟨h.1, ?_⟩
  rcases h.2 with hv | ⟨g, cap, cur, rfl, hb, hgg, rest⟩
  · exact .inl hv
  · exact .inr ⟨g, cap, cur, rfl, hb, (hf.keep g (Array.getElem?_eq_some_iff.1 hgg).1 (hn g rfl)).trans hgg, rest⟩
end
/-- What is said of an object speaks of its blocks alone: they lie there, and wherever they lie on it is so. -/
structure Lone {σ : Type} (R : World → Value → σ → (Nat → Prop) → Prop) : Prop where
  low : ∀ w p s F, R w p s F → ∀ k, F k → k < w.heap.size
  stay : ∀ w w2 p s F, R w p s F → w.heap.size ≤ w2.heap.size → (∀ k, F k → w2.heap[k]? = w.heap[k]?) → R w2 p s F
theorem Lone.fr {σ : Type} {R : World → Value → σ → (Nat → Prop) → Prop} (h : Lone R) {w w2 : World} {p : Value} {s : σ} {F G : Nat → Prop} (hR : R w p s F) (hf : Fr G w w2) (hn : ∀ k, F k → ¬ G k) : R w2 p s F :=
  h.stay w w2 p s F hR hf.size (fun k hk => hf.keep k (h.low w p s F hR k hk) (hn k hk))
theorem Lone.below {σ : Type} {R : World → Value → σ → (Nat → Prop) → Prop} (h : Lone R) {w w2 : World} {p : Value} {s : σ} {F : Nat → Prop} (hR : R w p s F) (hb : Below w.heap.size w w2) : R w2 p s F :=
  h.fr (G := fun _ => False) hR (.of_below hb) (fun _ _ hf => hf)
end Go.Proofs.YtmkeioeodlidgaaDoor

namespace Go.Proofs.YtmkeioeodlidgaaDoor
open Go.RowKit
set_option linter.unusedVariables false

theorem u8_info15 : (Tryd.prog.info? 5).map (fun i => (i.zero, i.size, i.bytes)) = some (some (.int .u8 0), 1, 1) := by kernel_rfl
theorem below_size1 {w w2 : World} {o : Obj} {B : Nat} (h : Below B (w.alloc o) w2) : w.heap.size + 1 ≤ w2.heap.size := by
  have := h.size
  rwa [show (w.alloc o).heap.size = w.heap.size + 1 by show (w.heap.push o).size = _; simp] at this
theorem ks_at (s : Wy) (h : s.fit) : (∀ i, i < (cells s.key).length → (cells s.ks)[0 + i]? = (cells s.key)[i]?) ∧ ∀ i, i < (cells s.salt).length → (cells s.ks)[36 + i]? = (cells s.salt)[i]? := by
  have hk := Wy.ks_len h
  have hf := h
  obtain ⟨h1, h2, h3, _⟩ := h
  refine ⟨fun i hi => ?_, fun i hi => ?_⟩
  · rw [length_cells] at hi
    rw [cells_at (by omega), cells_at (by omega), Nat.zero_add, ks_key hf (by omega)]
  · rw [length_cells] at hi
    rw [cells_at (by omega), cells_at (by omega), ks_salt hf (by omega)]
theorem turnW_len (s : Wy) (bs : List UInt8) (h so i n : Nat) (hl : bs.length = n) (hh : h ≤ n) : (turnW s bs h so i).length = n := by
  unfold turnW
  rw [List.length_append, List.length_take, cph_len, List.length_drop]
  omega
theorem tagW_len (s : Wy) (bs : List UInt8) (i : Nat) : (tagW s bs i).length = 10 := by
  unfold tagW
  rw [List.length_take, macFull_len]
  rfl
end Go.Proofs.YtmkeioeodlidgaaDoor

namespace Go.Proofs.YtmkeioeodlidgaaDoor
open Go.RowKit
set_option linter.unusedVariables false

theorem ret_i {k : IntKind} {a b : Int} (h : a = b) : Ending.returned (.int k a) = .returned (.int k b) := by rw [h]
theorem ret_b {a b : Bool} (h : a = b) : Ending.returned (.bool a) = .returned (.bool b) := by rw [h]

/-- The block of a window. -/
def winC (h : Int) (p : Nat) : List Value := [.int .i64 h, .int .u64 (p : Int)]
/-- Block g is a window in which just these indices were there. -/
def WinAt (w : World) (g : Nat) (L : List Int) : Prop := ∃ h p, WinS L h p ∧ BlkV w g 87 (winC h p)
section
variable {w w' : World} {g : Nat} {L : List Int}
theorem WinAt.lt (h : WinAt w g L) : g < w.heap.size := by obtain ⟨_, _, _, hB⟩ := h; exact hB.lt
theorem WinAt.below (h : WinAt w g L) (hb : Below w.heap.size w w') : WinAt w' g L := by obtain ⟨x, p, hW, hB⟩ := h; exact ⟨x, p, hW, hB.below hb hB.lt⟩
theorem WinAt.drew (h : WinAt w g L) : WinAt w.drew g L := h
theorem WinAt.only (h : WinAt w g L) {k : Nat} (hb : Only k w w') (hg : g ≠ k) : WinAt w' g L := by obtain ⟨x, p, hW, hB⟩ := h; exact ⟨x, p, hW, hB.only hb hg⟩
theorem WinAt.grown (h : WinAt w g L) {row : Option Nat} (hb : w.grownBy w' row) (hg : some g ≠ row) : WinAt w' g L := by obtain ⟨x, p, hW, hB⟩ := h; exact ⟨x, p, hW, hB.grown hb hg⟩
end

theorem told_some (g : Nat) (h : Int) (p : Nat) (w : World) (hB : BlkV w g 87 (winC h p)) :
    Calls Tryd.prog 56 #[.pointer (some ⟨g, 0, none⟩)] w fun e w' => e = .returned (.int .u64 (p : Int)) ∧ w = w' := by
  have hc : w.cell? ⟨g, 1, none⟩ = some (.int .u64 (p : Int)) := (hB.cell 1).trans rfl
  clear hB
  go_enter Tryd.func56, Tryd.ntmps56
  go_wp2
  go_ret
  exact ⟨rfl, rfl⟩
theorem told_none (w : World) :
    Calls Tryd.prog 56 #[.pointer none] w fun e w' => e = .returned (.int .u64 0) ∧ w = w' := by
  go_enter Tryd.func56, Tryd.ntmps56
  go_wp2
  go_ret
  exact ⟨rfl, rfl⟩
theorem high_any (g : Nat) (L : List Int) (w : World) (hW : WinAt w g L) :
    Calls Tryd.prog 38 #[.pointer (some ⟨g, 0, none⟩)] w fun e w' => e = .returned (.int .i64 (hiL L)) ∧ w = w' := by
  obtain ⟨h, p, hS, hB⟩ := hW
  have hc : w.cell? ⟨g, 0, none⟩ = some (.int .i64 h) := (hB.cell 0).trans rfl
  have hh := hS.high
  have HT := Lib.hid (told_some g h p w hB)
  obtain ⟨H, hH⟩ : ∃ H, H = hiL L := ⟨_, rfl⟩
  rw [← hH] at hh ⊢
  clear hH hB hS
  by_cases h0 : p = 0
  · rw [if_pos h0] at hh
    subst hh
    subst h0
    go_enter Tryd.func38, Tryd.ntmps38
    go_wp2_with (go_at_call 56; ((with_reducible refine (Hid.out HT).mono ?_); rintro e w' ⟨rfl, rfl⟩))
    go_ret
    exact ⟨rfl, rfl⟩
  · rw [if_neg h0] at hh
    subst hh
    have hd : ((p : Int) == 0) = false := by simp; omega
    go_enter Tryd.func38, Tryd.ntmps38
    go_wp2_with (go_at_call 56; ((with_reducible refine (Hid.out HT).mono ?_); rintro e w' ⟨rfl, rfl⟩))
    go_ret
    exact ⟨rfl, rfl⟩
theorem high_none (w : World) :
    Calls Tryd.prog 38 #[.pointer none] w fun e w' => e = .returned (.int .i64 (-1)) ∧ w = w' := by
  go_enter Tryd.func38, Tryd.ntmps38
  go_wp2_with (go_at_call 56; ((with_reducible refine (told_none _).mono ?_); rintro e w' ⟨rfl, rfl⟩))
  go_ret
  exact ⟨rfl, rfl⟩
theorem has_any (p n : Nat) (b : Bool) (w : World) (hp : p < 18446744073709551616) (hn : n < 64) (hb : p.testBit n = b) :
    Calls Tryd.prog 57 #[.int .u64 (p : Int), .int .i64 (n : Int)] w fun e w' => e = .returned (.bool b) ∧ w = w' := by
  have h1 : (p : Int) / 2 ^ n = ((p / 2 ^ n : Nat) : Int) := by simp
  have h2 : p / 2 ^ n ≤ p := Nat.div_le_self _ _
  have h3 : (p / 2 ^ n) % 2 = if b = true then 1 else 0 := by
    rw [← hb, Nat.testBit_eq_decide_div_mod_eq]
    have := Nat.mod_two_eq_zero_or_one (p / 2 ^ n)
    rcases this with h | h <;> simp [h]
  obtain ⟨q, hq⟩ : ∃ q, q = p / 2 ^ n := ⟨_, rfl⟩
  rw [← hq] at h1 h2 h3
  have h4 : bits BinOp.and IntKind.u64 (q : Int) 1 = ((if b = true then 1 else 0 : Nat) : Int) := by
    have h := u64_and_nat q 1 (by omega) (by omega)
    rw [Nat.and_one_is_mod, h3] at h
    exact h
  clear h3 hb hq
  have hn' : (n : Int) < 64 := by omega
  cases b
  · simp only [Bool.false_eq_true, if_false] at h4
    go_enter Tryd.func57, Tryd.ntmps57
    go_wp2
    go_ret
    exact ⟨rfl, rfl⟩
  · simp only [if_true] at h4
    go_enter Tryd.func57, Tryd.ntmps57
    go_wp2
    go_ret
    exact ⟨rfl, rfl⟩
end Go.Proofs.YtmkeioeodlidgaaDoor

namespace Go.Proofs.YtmkeioeodlidgaaDoor
open Go.RowKit
set_option linter.unusedVariables false

theorem fresh_none (i : Int) (w : World) :
    Calls Tryd.prog 39 #[.pointer none, .int .i64 i] w fun e w' => e = .returned (.bool false) ∧ w = w' := by
  go_enter Tryd.func39, Tryd.ntmps39
  go_wp2
  go_ret
  exact ⟨rfl, rfl⟩
theorem mark_none (i : Int) (w : World) :
    Calls Tryd.prog 41 #[.pointer none, .int .i64 i] w fun e w' => e = .returned (.int .i64 5) ∧ w = w' := by
  go_enter Tryd.func41, Tryd.ntmps41
  go_wp2_with (go_at_call 39; ((with_reducible refine (fresh_none _ _).mono ?_); rintro e w' ⟨rfl, rfl⟩))
  go_ret
  exact ⟨rfl, rfl⟩

theorem fresh_any (g : Nat) (L : List Int) (i : Int) (w : World) (hW : WinAt w g L) (hi : i ≤ 9223372036854775807) (ht : hiL L ≤ 9223372036854775807) :
    Calls Tryd.prog 39 #[.pointer (some ⟨g, 0, none⟩), .int .i64 i] w fun e w' => e = .returned (.bool (frL L i)) ∧ w = w' := by
  have hlow := hiL_low L
  have HH := Lib.hid (high_any g L w hW)
  by_cases h0 : i < 0
  · rw [fr_neg h0]
    clear hW hlow HH
    go_enter Tryd.func39, Tryd.ntmps39
    go_wp2
    go_ret
    exact ⟨rfl, rfl⟩
  have h0' : 0 ≤ i := by omega
  clear h0
  by_cases h1 : hiL L < i
  · rw [fr_above h0' h1]
    obtain ⟨H, hH⟩ : ∃ H, H = hiL L := ⟨_, rfl⟩
    rw [← hH] at h1 hlow ht HH
    clear hH hW
    go_enter Tryd.func39, Tryd.ntmps39
    go_wp2_with (go_at_call 38; ((with_reducible refine (Hid.out HH).mono ?_); rintro e w' ⟨rfl, rfl⟩))
    go_ret
    exact ⟨rfl, rfl⟩
  have h1' : i ≤ hiL L := by omega
  clear h1
  obtain ⟨x, p, hS, hB⟩ := hW
  have HT := Lib.hid (told_some g x p w hB)
  have hmf : ∀ (fn : Fn) (first cap : Array Value) (w : World), (Instr.makeFunc fn first cap).run Tryd.prog w = .ok (.func fn first cap) w := fun _ _ _ _ => rfl
  by_cases h2 : 64 ≤ hiL L - i
  · rw [fr_far h2]
    obtain ⟨H, hH⟩ : ∃ H, H = hiL L := ⟨_, rfl⟩
    rw [← hH] at h1' h2 hlow ht HH
    clear hH hS hB
    go_enter Tryd.func39, Tryd.ntmps39
    go_wp2_with (first
      | (go_at_call 38; ((with_reducible refine (Hid.out HH).mono ?_); rintro e w' ⟨rfl, rfl⟩))
      | (go_at_call 56; ((with_reducible refine (Hid.out HT).mono ?_); rintro e w' ⟨rfl, rfl⟩)))
    go_ret
    exact ⟨rfl, rfl⟩
  · obtain ⟨n, hn⟩ := Int.eq_ofNat_of_zero_le (show 0 ≤ hiL L - i by omega)
    have hb := hS.near h0' h1' n hn (by omega)
    obtain ⟨b, hbb⟩ : ∃ b, b = p.testBit n := ⟨_, rfl⟩
    have HA := Lib.hid (fun w => has_any p n b w hS.lt (by omega) hbb.symm)
    rw [hb, ← hbb]
    have h2' : (n : Int) < 64 := by omega
    obtain ⟨H, hH⟩ : ∃ H, H = hiL L := ⟨_, rfl⟩
    rw [← hH] at h1' h2 hlow ht HH hn
    clear hH hS hB hb hbb h2
    go_enter Tryd.func39, Tryd.ntmps39
    go_wp2_with (first
      | (go_at_call 38; ((with_reducible refine (Hid.out HH).mono ?_); rintro e w' ⟨rfl, rfl⟩))
      | (go_at_call 56; ((with_reducible refine (Hid.out HT).mono ?_); rintro e w' ⟨rfl, rfl⟩))
      | (go_at_call 57; ((with_reducible refine (Hid.out HA _).mono ?_); rintro e w' ⟨rfl, rfl⟩)))
    go_ret
    exact ⟨rfl, rfl⟩

theorem shl_bits (p d : Nat) : Op.shift .shl .u64 (p : Int) .i64 (d : Int) = pure (.int .u64 ((p * 2 ^ d % 18446744073709551616 : Nat) : Int)) := by
  have h0 : ¬ ((d : Int) < 0) := by omega
  unfold Op.shift
  rw [if_neg h0]
  simp only [Int.toNat_natCast, IntKind.bits]
  by_cases h : d ≤ 64
  · rw [Nat.min_eq_left h, IntKind.wrap_u64]
    simp
  · rw [Nat.min_eq_right (by omega), IntKind.wrap_u64]
    obtain ⟨c, rfl⟩ : ∃ c, d = 64 + c := ⟨d - 64, by omega⟩
    have e : p * 2 ^ (64 + c) % 18446744073709551616 = 0 := by
      rw [Nat.pow_add, show (2 : Nat) ^ 64 = 18446744073709551616 by decide, ← Nat.mul_assoc, Nat.mul_comm p, Nat.mul_assoc]
      exact Nat.mul_mod_right _ _
    rw [e]
    congr 2
    have : (2 : Int) ^ 64 = 18446744073709551616 := by decide
    rw [this]
    omega

set_option maxRecDepth 100000 in
theorem mark_any (g : Nat) (L : List Int) (i : Int) (w : World) (hW : WinAt w g L) (hi : i ≤ 9223372036854775807) (ht : hiL L ≤ 9223372036854775807) :
    Calls Tryd.prog 41 #[.pointer (some ⟨g, 0, none⟩), .int .i64 i] w fun e w' => e = .returned (.int .i64 (if frL L i = true then 0 else 5)) ∧ WinAt w' g (mkL L i) ∧ Only g w w' := by
  have hfr := fresh_any g L i w hW hi ht
  cases hf : frL L i
  · rw [hf] at hfr
    rw [mkL_not hf]
    have HF := Lib.hid hfr
    have HW := Lib.hid hW
    clear hfr hf hW
    simp only [Bool.false_eq_true, if_false]
    go_enter Tryd.func41, Tryd.ntmps41
    go_wp2_with (go_at_call 39; ((with_reducible refine (Hid.out HF).mono ?_); rintro e w' ⟨rfl, rfl⟩))
    go_ret
    exact ⟨rfl, HW.out, Only.refl _ _⟩
  rw [hf] at hfr
  have hf0 := ((frL_iff L i).1 hf).1
  obtain ⟨x, p, hS, hB⟩ := hW
  have hxp := hS.hpos
  simp only [if_true]
  have HF := Lib.hid hfr
  have hc0 : w.cell? ⟨g, 0, none⟩ = some (.int .i64 x) := (hB.cell 0).trans rfl
  have hc1 : w.cell? ⟨g, 1, none⟩ = some (.int .u64 (p : Int)) := (hB.cell 1).trans rfl
  have hr0 := hB.frozen 0
  have hr1 := hB.frozen 1
  by_cases hx : x < i
  · obtain ⟨d, hd⟩ := Int.eq_ofNat_of_zero_le (show 0 ≤ i - x by omega)
    have hU := hS.up hx d hd
    have hsh := shl_bits p d
    obtain ⟨P, hP⟩ : ∃ P, P = p * 2 ^ d % 18446744073709551616 := ⟨_, rfl⟩
    rw [← hP] at hU hsh
    have hor : bits .or .u64 (P : Int) 1 = ((P ||| 1 : Nat) : Int) := u64_or_nat P 1 (by omega) (by omega)
    obtain ⟨Q, hQ⟩ : ∃ Q, Q = P ||| 1 := ⟨_, rfl⟩
    rw [← hQ] at hU hor
    have hw1 : IntKind.i64.wrap (d : Int) = (d : Int) := IntWalk.i64_in _ (by omega)
    have hO0 := (Only.refl g w).drew
    have hBd := hB.drew
    have HU := Lib.hid hU
    have HB := Lib.hid (And.intro hBd hO0)
    clear hU hP hQ hS hfr hf hBd hO0 hB
    go_enter Tryd.func41, Tryd.ntmps41
    go_wp2_with (go_at_call 39; ((with_reducible refine (Hid.out HF).mono ?_); rintro e w' ⟨rfl, rfl⟩))
    go_still_tail 13, (by kernel_rfl)
    change wpList _ _ _ _ _ (World.drew w)
    clear hc0 hc1 hr0 hr1 HF
    generalize w.drew = w2 at *
    have HB := HB.out
    have hc0 : w2.cell? ⟨g, 0, none⟩ = some (.int .i64 x) := (HB.1.cell 0).trans rfl
    have hc1 : w2.cell? ⟨g, 1, none⟩ = some (.int .u64 (p : Int)) := (HB.1.cell 1).trans rfl
    have hr0 := HB.1.frozen 0
    have hr1 := HB.1.frozen 1
    have hB2 := (HB.1.set_ 1 (.int .u64 (P : Int))).set_ 0 (.int .i64 i)
    have hO2 := HB.2.trans ((Only.set w2 g 1 (.int .u64 (P : Int))).trans (Only.set _ g 0 (.int .i64 i)))
    have HB2 := Lib.hid (And.intro hB2 hO2)
    clear HB hB2 hO2
    go_wp2
    generalize (w2.setCell ⟨g, 1, none⟩ (.int .u64 (P : Int))).setCell ⟨g, 0, none⟩ (.int .i64 i) = w3 at *
    clear hc0 hc1 hr0 hr1
    have hc0 : w3.cell? ⟨g, 0, none⟩ = some (.int .i64 i) := (HB2.out.1.cell 0).trans rfl
    have hc1 : w3.cell? ⟨g, 1, none⟩ = some (.int .u64 (P : Int)) := (HB2.out.1.cell 1).trans rfl
    have hii : IntKind.i64.wrap 0 = 0 := IntWalk.i64_in _ (by omega)
    have hiu : IntKind.u64.wrap 1 = 1 := IntWalk.u64_in _ (by omega)
    have hsh1 : Op.shift .shl .u64 1 .i64 0 = pure (.int .u64 1) := shl_bits 1 0
    go_still_tail 14, (by kernel_rfl)
    change wpList _ _ _ _ _ (World.drew w3)
    have hB3 := HB2.out.1.drew
    have hO3 := HB2.out.2.drew
    clear hc0 hc1
    generalize w3.drew = w4 at *
    have hr1 := hB3.frozen 1
    have hc1 : w4.cell? ⟨g, 1, none⟩ = some (.int .u64 (P : Int)) := (hB3.cell 1).trans rfl
    have hB4 := hB3.set_ 1 (.int .u64 (Q : Int))
    have hO4 := hO3.trans (Only.set _ g 1 (.int .u64 (Q : Int)))
    clear hB3 hO3
    go_wp2
    go_ret
    exact ⟨rfl, ⟨i, Q, HU.out, hB4⟩, hO4⟩
  · obtain ⟨d, hd⟩ := Int.eq_ofNat_of_zero_le (show 0 ≤ x - i by omega)
    obtain ⟨hU, hd6⟩ := hS.in (by omega) hf d hd
    have hsh : Op.shift .shl .u64 1 .i64 (d : Int) = pure (.int .u64 ((2 ^ d : Nat) : Int)) := by
      have h := shl_bits 1 d
      rw [Nat.one_mul, Nat.mod_eq_of_lt (by rw [two64]; exact Nat.pow_lt_pow_right (by decide) hd6)] at h
      exact h
    have hpl : 2 ^ d < 18446744073709551616 := by rw [two64]; exact Nat.pow_lt_pow_right (by decide) hd6
    have he : (2 : Int) ^ d = ((2 ^ d : Nat) : Int) := by simp
    obtain ⟨R, hR⟩ : ∃ R, R = 2 ^ d := ⟨_, rfl⟩
    rw [← hR] at hU hsh hpl he
    have hpw : IntKind.u64.wrap (2 ^ d) = (R : Int) := by rw [he]; exact IntWalk.u64_in _ (by omega)
    clear he
    have hor := u64_or_nat p R hS.lt hpl
    obtain ⟨Q, hQ⟩ : ∃ Q, Q = p ||| R := ⟨_, rfl⟩
    rw [← hQ] at hU hor
    have hw1 : IntKind.i64.wrap (d : Int) = (d : Int) := IntWalk.i64_in _ (by omega)
    have HU := Lib.hid hU
    have hBd := hB.drew
    have hO0 := (Only.refl g w).drew
    have HB := Lib.hid (And.intro hBd hO0)
    clear hU hQ hR hS hfr hf hBd hO0 hB hpl
    go_enter Tryd.func41, Tryd.ntmps41
    go_wp2_with (go_at_call 39; ((with_reducible refine (Hid.out HF).mono ?_); rintro e w' ⟨rfl, rfl⟩))
    go_still_tail 14, (by kernel_rfl)
    change wpList _ _ _ _ _ (World.drew w)
    clear hc0 hc1 hr0 hr1 HF
    generalize w.drew = w4 at *
    have hB3 := HB.out.1
    have hO3 := HB.out.2
    have hr1 := hB3.frozen 1
    have hc1 : w4.cell? ⟨g, 1, none⟩ = some (.int .u64 (p : Int)) := (hB3.cell 1).trans rfl
    have hB4 := hB3.set_ 1 (.int .u64 (Q : Int))
    have hO4 := hO3.trans (Only.set _ g 1 (.int .u64 (Q : Int)))
    clear hB3 hO3 HB
    go_wp2
    go_ret
    exact ⟨rfl, ⟨x, Q, HU.out, hB4⟩, hO4⟩
end Go.Proofs.YtmkeioeodlidgaaDoor

namespace Go.Proofs.YtmkeioeodlidgaaDoor
open Go.RowKit
set_option linter.unusedVariables false

/-- The cells of a row of int64. -/
def icells (L : List Int) : List Value := L.map fun z => .int .i64 z
theorem icells_len (L : List Int) : (icells L).length = L.length := by simp [icells]
theorem icells_at {L : List Int} {j : Nat} (h : j < L.length) : (icells L)[j]? = some (.int .i64 (L.getD j 0)) := by simp [icells, List.getD, h]
theorem icells_snoc (L : List Int) (x : Int) : icells (L ++ [x]) = icells L ++ [.int .i64 x] := by simp [icells]

/-- The slice reads as these int64. -/
def RdI (w : World) (A : Option Addr) (n : Nat) (zs : List Int) : Prop :=
  zs.length = n ∧ n ≤ 9223372036854775807 ∧ (∀ z ∈ zs, -9223372036854775808 ≤ z ∧ z ≤ 9223372036854775807) ∧
  (0 < n → ∃ b off, A = some ⟨b, off, none⟩ ∧ b < w.heap.size ∧ ∀ j, j < n → w.cell? ⟨b, off + j, none⟩ = some (.int .i64 (zs.getD j 0)))
theorem RdI.len {w : World} {A : Option Addr} {n : Nat} {zs : List Int} (h : RdI w A n zs) : zs.length = n := h.1
theorem RdI.small {w : World} {A : Option Addr} {n : Nat} {zs : List Int} (h : RdI w A n zs) : n ≤ 9223372036854775807 := h.2.1
theorem RdI.bd {w : World} {A : Option Addr} {n : Nat} {zs : List Int} (h : RdI w A n zs) {j : Nat} (hj : j < n) : -9223372036854775808 ≤ zs.getD j 0 ∧ zs.getD j 0 ≤ 9223372036854775807 := by
  have hl := h.len
  have : j < zs.length := by omega
  rw [List.getD_eq_getElem?_getD, List.getElem?_eq_getElem this, Option.getD_some]
  exact h.2.2.1 _ (List.getElem_mem this)
theorem RdI.below {w w' : World} {A : Option Addr} {n : Nat} {zs : List Int} (h : RdI w A n zs) {B : Nat} (hb : Below B w w') (hB : w.heap.size ≤ B) : RdI w' A n zs := by
  refine ⟨h.1, h.2.1, h.2.2.1, fun hn => ?_⟩
  obtain ⟨b, off, hA, hlt, hc⟩ := h.2.2.2 hn
  exact ⟨b, off, hA, Nat.lt_of_lt_of_le hlt hb.size, fun j hj => (hb.cell (p := ⟨b, off + j, none⟩) (by simp only; omega)).trans (hc j hj)⟩
theorem RdI.drew {w : World} {A : Option Addr} {n : Nat} {zs : List Int} (h : RdI w A n zs) : RdI w.drew A n zs := h
/-- One of its values, at its place. -/
theorem RdI.at_ {w : World} {A : Option Addr} {n : Nat} {zs : List Int} (h : RdI w A n zs) {j : Nat} (hj : j < n) : ∃ ad, A = some ad ∧ w.cell? (ad.add j) = some (.int .i64 (zs.getD j 0)) := by
  obtain ⟨b, off, hA, _, hc⟩ := h.2.2.2 (by omega)
  exact ⟨_, hA, by rw [add_lit]; exact hc j hj⟩
/-- Where a slice came in as a row of int64. -/
theorem RdI.of_row {w : World} {a : Option Addr} {len cap : Nat} {zs : List Int}
    (h : (a = none ∧ len = 0 ∧ cap = 0 ∧ zs = []) ∨
      ∃ x, a = some x ∧ len ≤ cap ∧ cap ≤ maxLen ∧ zs.length = cap ∧ (∀ i, i < zs.length → w.cell? (x.add i) = some (.int .i64 (zs.getD i 0))) ∧ ∀ n ∈ zs, (Lit.int .i64 n).wf = true) :
    RdI w a len (zs.take len) := by
  rcases h with ⟨rfl, rfl, rfl, rfl⟩ | ⟨x, rfl, hl, hm, hz, hc, hw⟩
  · exact ⟨rfl, by omega, by simp, fun h => absurd h (by omega)⟩
  · simp only [maxLen] at hm
    refine ⟨by simp; omega, by omega, fun z hz' => bounds_i64 (hw z (List.mem_of_mem_take hz')), fun hn => ?_⟩
    obtain ⟨b, off, spot⟩ := x
    have h0 := hc 0 (by omega)
    have hs : spot = none := by simpa [Addr.add] using World.cell?_spot h0
    subst hs
    refine ⟨b, off, rfl, ?_, fun j hj => ?_⟩
    · have := World.block_lt_of_cell? w _ h0
      rw [add_lit] at this
      exact this
    · have hcj := hc j (by omega)
      rw [add_lit] at hcj
      rw [hcj]
      simp [List.getD, hj]
/-- A row of the call's own that isn't empty. -/
theorem own_ints {w : World} {base n : Nat} {e : TypeId} {v : Value} {L : List Int} (h : w.ownsRow base e 1 v n (icells L)) (hn : 0 < n) :
    ∃ g c, v = .slice (some ⟨g, 0, none⟩) n c ∧ base ≤ g ∧ g < w.heap.size ∧ ∀ j, j < n → w.cell? ⟨g, j, none⟩ = some (.int .i64 (L.getD j 0)) := by
  have hl : L.length = n := by simpa [icells_len] using h.1
  obtain ⟨g, c, rfl, hb, hlt⟩ := h.form hn
  exact ⟨g, c, rfl, hb, hlt, fun j hj => by rw [h.cellAt j (by omega), icells_at (by omega)]⟩
theorem own_keep {w w' : World} {base n : Nat} {e : TypeId} {v : Value} {xs : List Value} (h : w.ownsRow base e 1 v n xs) (hb : Below w.heap.size w w') : w'.ownsRow base e 1 v n xs :=
  h.kept (grown_of_below hb none) (by cases v.ownBlock <;> simp)
end Go.Proofs.YtmkeioeodlidgaaDoor

namespace Go.Proofs.YtmkeioeodlidgaaDoor
open Go.RowKit
set_option linter.unusedVariables false

theorem take_next (L : List Int) (k : Nat) (h : k < L.length) : L.take (k + 1) = L.take k ++ [L.getD k 0] := by
  rw [List.take_succ_eq_append_getElem h]
  simp [List.getD, h]
theorem fr_low {L : List Int} {x : Int} (h : x < 0 ∨ x + 64 ≤ hiL L) : frL L x = false := by
  rw [← Bool.not_eq_true, frL_iff]; intro h; omega
theorem fr_there {L : List Int} {k : Nat} (hk : k < L.length) : frL L (L.getD k 0) = false := by
  rw [← Bool.not_eq_true, frL_iff]
  intro h
  refine h.2.2 ?_
  rw [List.getD_eq_getElem?_getD, List.getElem?_eq_getElem hk, Option.getD_some]
  exact List.getElem_mem hk

end Go.Proofs.YtmkeioeodlidgaaDoor

namespace Go.Proofs.YtmkeioeodlidgaaDoor
open Go.RowKit
set_option linter.unusedVariables false

theorem i64_inf : (Tryd.prog.info? 2).map (fun i => (i.zero, i.size, i.bytes)) = some (some (.int .i64 0), 1, 8) := by kernel_rfl

/-- How many of the first k were in the window below h. -/
def ctk (h : Int) (L : List Int) (k : Nat) : Nat := (L.take k).countP (fun y => decide (h < y + 64))
theorem ctk_next (h : Int) (L : List Int) (k : Nat) (hk : k < L.length) : ctk h L (k + 1) = ctk h L k + if h < L.getD k 0 + 64 then 1 else 0 := by
  unfold ctk
  rw [take_next L k hk, List.countP_append, List.countP_singleton]
  simp
theorem ctk_le (h : Int) (L : List Int) (k : Nat) : ctk h L k ≤ k := by
  have := List.countP_le_length (p := fun y => decide (h < y + 64)) (l := L.take k)
  have h2 := List.length_take (i := k) (l := L)
  unfold ctk
  omega

end Go.Proofs.YtmkeioeodlidgaaDoor
