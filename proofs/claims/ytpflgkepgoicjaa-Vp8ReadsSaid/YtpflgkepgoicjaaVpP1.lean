/- Contracts of package vp8: its next byte, and a picture's number. No statement is proved here. -/
import Derived.Test.YtpflgkepgoicjaaVpNum3
import Derived.Test.YtpflgkepgoicjaaElts
import Derived.Test.YtpflgkepgoicjaaReg
import Derived.Test.YtpflgkepgoicjaaCut
namespace Go.Proofs.Ytpflgkepgoicjaa
open Go.RowKit
set_option linter.unusedVariables false

set_option maxRecDepth 100000 in
set_option maxHeartbeats 1000000 in
theorem next13_short (z : Nat) (q r : Nat) (A : Option Addr) (c : Nat) (W : World) (hq : W.cell? ⟨q, 0, none⟩ = some (.slice A 0 c)) (hr : ∃ v, W.cell? ⟨r, 0, none⟩ = some v) (hf : W.frozen? ⟨r, 0, none⟩ = false) :
    Calls Try.prog 10 #[.int .u8 (z : Int), .pointer (some ⟨q, 0, none⟩), .pointer (some ⟨r, 0, none⟩)] W fun e w' => e = .returned (.int .u8 0) ∧ w' = W.setCell ⟨r, 0, none⟩ (.int .i64 2) := by
  obtain ⟨v, hv⟩ := hr
  go_enter Try.func10, Try.ntmps10
  go_wp2
  go_ret
  exact ⟨rfl, rfl⟩
set_option maxRecDepth 100000 in
set_option maxHeartbeats 1000000 in
theorem next13_form (z x : Nat) (q r b o : Nat) (n c : Nat) (W : World) (hz : z < 256) (hx : x < 256) (hq : W.cell? ⟨q, 0, none⟩ = some (.slice (some ⟨b, o, none⟩) (n + 1) c)) (hc : W.cell? ⟨b, o, none⟩ = some (.int .u8 (x : Int))) (h : ¬ x &&& z = 0) (hr : ∃ v, W.cell? ⟨r, 0, none⟩ = some v) (hf : W.frozen? ⟨r, 0, none⟩ = false) :
    Calls Try.prog 10 #[.int .u8 (z : Int), .pointer (some ⟨q, 0, none⟩), .pointer (some ⟨r, 0, none⟩)] W fun e w' => e = .returned (.int .u8 0) ∧ w' = W.setCell ⟨r, 0, none⟩ (.int .i64 3) := by
  obtain ⟨v, hv⟩ := hr
  have hb := u8_and_nat x z hx hz
  have hne : ¬ ((x &&& z : Nat) : Int) = 0 := by omega
  go_enter Try.func10, Try.ntmps10
  go_wp2
  go_ret
  exact ⟨rfl, rfl⟩
set_option maxRecDepth 100000 in
set_option maxHeartbeats 1000000 in
theorem next13_ok (z x : Nat) (q r b o : Nat) (n c : Nat) (W : World) (hz : z < 256) (hx : x < 256) (hq : W.cell? ⟨q, 0, none⟩ = some (.slice (some ⟨b, o, none⟩) (n + 1) c)) (hle : n + 1 ≤ c) (hm : c ≤ maxLen) (hc : W.cell? ⟨b, o, none⟩ = some (.int .u8 (x : Int))) (h : x &&& z = 0) (hf : W.frozen? ⟨q, 0, none⟩ = false) :
    Calls Try.prog 10 #[.int .u8 (z : Int), .pointer (some ⟨q, 0, none⟩), .pointer (some ⟨r, 0, none⟩)] W fun e w' => ∃ A2, e = .returned (.int .u8 (x : Int)) ∧ w' = W.setCell ⟨q, 0, none⟩ (.slice A2 n (c - 1)) ∧ ∀ w bs, RdS w (some ⟨b, o, none⟩) (n + 1) c bs → RdS w A2 n (c - 1) (bs.drop 1) := by
  have hb := u8_and_nat x z hx hz
  have hne : ((x &&& z : Nat) : Int) = 0 := by omega
  obtain ⟨A2, hs1, hs2, hrd⟩ := run_lo (some ⟨b, o, none⟩) (n + 1) c 1 1 rfl (by omega) hle hm
  rw [show n + 1 - 1 = n by omega] at hs1 hs2
  have HRD := Lib.hid hrd
  clear hrd hm
  go_enter Try.func10, Try.ntmps10
  go_wp2
  go_ret
  exact ⟨A2, rfl, rfl, HRD.out⟩
abbrev V3 (w : World) (vs : Array Value) (q : Int) (sl : Value) : World := ((w.alloc (.cells vs 26)).alloc (.cells #[.int .i64 q] 27)).alloc (.cells #[sl] 22)
/-- Reading under way: w at the beginning, what is told so far (vs), the error q, what is left (rs). -/
def NxS (w : World) (vs : Array Value) (q : Nat) (rs : List UInt8) (W : World) : Prop := ∃ A c N, N = rs.length ∧ W = V3 w vs q (.slice A N c) ∧ RdS w A N c rs
theorem V3.below (w : World) (vs : Array Value) (q : Int) (sl : Value) : Below w.heap.size w (V3 w vs q sl) := (twoBelow w _ _).alloc (by show _ ≤ ((w.heap.push _).push _).size; simp; omega) _
theorem size2 (w : World) (o o2 : Obj) : ((w.alloc o).alloc o2).heap.size = w.heap.size + 2 := by show ((w.heap.push o).push o2).size = _; simp
theorem size1 (w : World) (o : Obj) : (w.alloc o).heap.size = w.heap.size + 1 := by show (w.heap.push o).size = _; simp
theorem V3.bq (w : World) (vs : Array Value) (q : Int) (sl : Value) : BlkV (V3 w vs q sl) (w.heap.size + 2) 22 [sl] := BlkV.new_at _ _ _ _ _ (size2 _ _ _) rfl
theorem V3.br (w : World) (vs : Array Value) (q : Int) (sl : Value) : BlkV (V3 w vs q sl) (w.heap.size + 1) 27 [.int .i64 q] := (BlkV.new_at _ _ _ _ _ (size1 _ _) rfl : BlkV ((w.alloc _).alloc _) (w.heap.size + 1) _ [Value.int .i64 q]).alloc _
theorem V3.setq (w : World) (vs : Array Value) (q : Int) (sl s2 : Value) : (V3 w vs q sl).setCell ⟨w.heap.size + 2, 0, none⟩ s2 = V3 w vs q s2 := by
  have e := size2 w (.cells vs 26) (.cells #[.int .i64 q] 27)
  unfold V3
  rw [World.setCell_alloc_at _ _ _ _ _ e.symm]
  rfl
theorem V3.setr (w : World) (vs : Array Value) (q q2 : Int) (sl : Value) : (V3 w vs q sl).setCell ⟨w.heap.size + 1, 0, none⟩ (.int .i64 q2) = V3 w vs q2 sl := by
  have e := size1 w (.cells vs 26)
  have e2 := size2 w (.cells vs 26) (.cells #[.int .i64 q] 27)
  unfold V3
  rw [World.setCell_alloc_past _ _ _ _ (by omega), World.setCell_alloc_at _ _ _ _ _ e.symm]
  rfl
theorem next13_any (z : Nat) (w : World) (vs : Array Value) (q : Nat) (rs : List UInt8) (W : World) (hz : z < 256) (h : NxS w vs q rs W) :
    Calls Try.prog 10 #[.int .u8 (z : Int), .pointer (some ⟨w.heap.size + 2, 0, none⟩), .pointer (some ⟨w.heap.size + 1, 0, none⟩)] W fun e w' => e = .returned (.int .u8 (nxX z rs : Int)) ∧ NxS w vs (nxC z q rs) (nxR z rs) w' := by
  obtain ⟨A, c, N, hN, rfl, hr⟩ := h
  subst hN
  have hq := (V3.bq w vs q (.slice A rs.length c)).cell 0
  have hv := (V3.br w vs q (.slice A rs.length c)).cell 0
  have fq := (V3.bq w vs q (.slice A rs.length c)).frozen 0
  have fr := (V3.br w vs q (.slice A rs.length c)).frozen 0
  cases rs with
  | nil =>
    refine (next13_short z _ _ A c _ hq ⟨_, hv⟩ fr).mono ?_
    rintro e w' ⟨rfl, rfl⟩
    exact ⟨rfl, A, c, _, rfl, V3.setr _ _ _ _ _, hr⟩
  | cons x t =>
    obtain ⟨b, o, rfl, hlt, hcs⟩ := hr.2.2.2.2 (by simp)
    have hc0 : (V3 w vs q (.slice (some ⟨b, o, none⟩) (x :: t).length c)).cell? ⟨b, o, none⟩ = some (.int .u8 (x.toNat : Int)) := ((V3.below _ _ _ _).cell hlt).trans (hcs 0 (by simp))
    have hx := UInt8.toNat_lt x
    by_cases h0 : x.toNat &&& z = 0
    · refine (next13_ok z x.toNat _ (w.heap.size + 1) b o t.length c _ hz hx hq hr.le hr.max hc0 h0 fq).mono ?_
      rintro e w' ⟨A2, rfl, rfl, hd⟩
      have e1 : nxX z (x :: t) = x.toNat := if_pos h0
      have e2 : nxR z (x :: t) = t := if_pos h0
      have e3 : nxC z q (x :: t) = q := if_pos h0
      rw [e1, e2, e3]
      exact ⟨rfl, A2, c - 1, _, rfl, V3.setq _ _ _ _ _, hd w _ hr⟩
    · refine (next13_form z x.toNat _ (w.heap.size + 1) b o t.length c _ hz hx hq hc0 h0 ⟨_, hv⟩ fr).mono ?_
      rintro e w' ⟨rfl, rfl⟩
      have e1 : nxX z (x :: t) = 0 := if_neg h0
      have e2 : nxR z (x :: t) = x :: t := if_neg h0
      have e3 : nxC z q (x :: t) = 3 := if_neg h0
      rw [e1, e2, e3]
      exact ⟨rfl, _, c, _, rfl, V3.setr _ _ _ _ _, hr⟩
theorem next13_at (zi : Int) (z : Nat) (hzi : zi = z) (w : World) (vs : Array Value) (q : Nat) (rs : List UInt8) (W : World) (hz : z < 256) (h : NxS w vs q rs W) :
    Calls Try.prog 10 #[.int .u8 zi, .pointer (some ⟨w.heap.size + 2, 0, none⟩), .pointer (some ⟨w.heap.size + 1, 0, none⟩)] W fun e w' => e = .returned (.int .u8 (nxX z rs : Int)) ∧ NxS w vs (nxC z q rs) (nxR z rs) w' := hzi ▸ next13_any z w vs q rs W hz h
abbrev clo (w : World) : Value := .func (.func 10) #[] #[.pointer (some ⟨w.heap.size + 2, 0, none⟩), .pointer (some ⟨w.heap.size + 1, 0, none⟩)]
set_option maxRecDepth 100000 in
set_option maxHeartbeats 1000000 in
theorem number13_any (w : World) (vs : Array Value) (q : Nat) (rs : List UInt8) (W : World) (h : NxS w vs q rs W) :
    Calls Try.prog 11 #[clo w] W fun e w' => e = .returned (.tuple #[.int .u16 (numX rs : Int), .bool (numW rs)]) ∧ NxS w vs (numC q rs) (numR rs) w' := by
  have HN := Lib.hid (fun q rs W h => next13_at 0 0 rfl w vs q rs W (by omega) h)
  have HS := Lib.hid h
  obtain ⟨x, ex⟩ : ∃ x, x = nxX 0 rs := ⟨_, rfl⟩
  have lx : x < 256 := by rw [ex]; exact nxX_lt _ _
  have HX := Lib.hid ex
  clear ex h
  by_cases hw : 128 ≤ x
  · obtain ⟨y, ey⟩ : ∃ y, y = nxX 0 (nxR 0 rs) := ⟨_, rfl⟩
    have ly : y < 256 := by rw [ey]; exact nxX_lt _ _
    have HY := Lib.hid ey
    have b1 := and128_1 lx hw
    have b2 := not128 x lx
    have b3 : bits .or .u16 ((x : Int) % 128 * 256) (y : Int) = ((x % 128 * 256 + y : Nat) : Int) := (or_low (x % 128) y (by omega) ly)
    have HE : Hid (((x % 128 * 256 + y : Nat) : Int) = (numX rs : Int) ∧ numW rs = true ∧ numC q rs = nxC 0 (nxC 0 q rs) (nxR 0 rs) ∧ numR rs = nxR 0 (nxR 0 rs)) := Lib.hid ⟨by unfold numX; rw [← HX.out, if_pos hw, ← HY.out]; omega, by unfold numW; rw [← HX.out]; exact decide_eq_true hw, by unfold numC; rw [← HX.out, if_pos hw], by unfold numR; rw [← HX.out, if_pos hw]⟩
    clear ey
    go_enter Try.func11, Try.ntmps11
    go_wp2_with (first
      | (go_at_call 10; ((with_reducible refine (HN.out _ _ _ HS.out).mono ?_); rintro e w1 ⟨rfl, h1⟩; rw [← HX.out]; have HS1 := Lib.hid h1; clear h1))
      | (go_at_call 10; ((with_reducible refine (HN.out _ _ _ HS1.out).mono ?_); rintro e w2 ⟨rfl, h2⟩; rw [← HY.out]; have HS2 := Lib.hid h2; clear h2)))
    go_ret2
    obtain ⟨h1, h2, h3, h4⟩ := HE.out
    rw [h2, h3, h4, ← h1]
    exact ⟨rfl, HS2.out⟩
  · have b1 := and128_0 lx hw
    have HE : Hid (numX rs = x ∧ numW rs = false ∧ numC q rs = nxC 0 q rs ∧ numR rs = nxR 0 rs) := Lib.hid ⟨by unfold numX; rw [← HX.out, if_neg hw], by unfold numW; rw [← HX.out]; exact decide_eq_false hw, by unfold numC; rw [← HX.out, if_neg hw], by unfold numR; rw [← HX.out, if_neg hw]⟩
    go_enter Try.func11, Try.ntmps11
    go_wp2_with (first
      | (go_at_call 10; ((with_reducible refine (HN.out _ _ _ HS.out).mono ?_); rintro e w1 ⟨rfl, h1⟩; rw [← HX.out]; have HS1 := Lib.hid h1; clear h1)))
    go_ret2
    obtain ⟨h1, h2, h3, h4⟩ := HE.out
    rw [h1, h2, h3, h4]
    exact ⟨rfl, HS1.out⟩
set_option maxRecDepth 100000 in
theorem whole13_any (A : Option Addr) (n c : Nat) (rs : List UInt8) (w : World) (hr : RdS w A n c rs) :
    Calls Try.prog 12 #[.slice A n c] w fun e w' => e = .returned (.bool (decide (0 < rs.length ∧ bV rs 0 % 2 = 0))) ∧ w' = w := by
  have hl := hr.len
  have hs := hr.small
  by_cases h0 : n = 0
  · subst h0
    rw [decide_eq_false (by omega)]
    clear hr
    go_enter Try.func12, Try.ntmps12
    go_wp2
    go_ret
    exact ⟨rfl, rfl⟩
  · obtain ⟨b, o, rfl, hlt, hcs⟩ := hr.2.2.2.2 (by omega)
    have hc0 : w.cell? ⟨b, o, none⟩ = some (.int .u8 (bV rs 0 : Int)) := hcs 0 (by omega)
    have hx := bV_lt rs 0
    have h1 : ¬ (n : Int) = 0 := by omega
    have h2 : (0 : Int) < (n : Int) := by omega
    have hd : decide (0 < rs.length ∧ bV rs 0 % 2 = 0) = ((bV rs 0 : Int) % 2 == 0) := by
      by_cases h : bV rs 0 % 2 = 0
      · rw [decide_eq_true ⟨by omega, h⟩, show (bV rs 0 : Int) % 2 = 0 by omega]; rfl
      · rw [decide_eq_false (fun h3 => h h3.2)]; symm; rw [beq_eq_false_iff_ne]; omega
    rw [hd]
    clear hr hcs hd
    generalize bV rs 0 = x at hc0 hx ⊢
    go_enter Try.func12, Try.ntmps12
    go_wp2
    go_ret
    exact ⟨rfl, rfl⟩
end Go.Proofs.Ytpflgkepgoicjaa
