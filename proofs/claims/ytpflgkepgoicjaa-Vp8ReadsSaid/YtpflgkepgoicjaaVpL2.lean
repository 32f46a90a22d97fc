/- The walk of the law tenaillelaw13.Vp8Reads, over what package vp8 tells. No statement is proved here. -/
import Derived.Test.YtpflgkepgoicjaaVpL1
namespace Go.Proofs.Ytpflgkepgoicjaa
open Go.RowKit
set_option linter.unusedVariables false

set_option maxRecDepth 100000 in
theorem vp8Reads_long {T : World → Prop} (H : Tells13 T) (A : Option Addr) (n c : Nat) (w : World) (hw : T w) (hn : 2000 < n) :
    Calls Try.prog 3 #[.slice A n c] w fun e w' => e = .returned (.bool true) ∧ Below w.heap.size w w' := by
  have HA := Lib.hid (alive13 H w hw)
  clear H hw
  go_enter Try.func3, Try.ntmps3
  go_wp2_with (go_at_call 5; ((with_reducible refine (Hid.out HA).mono ?_); rintro e w1 ⟨rfl, hb1⟩; have f1 := Lib.hid hb1; clear hb1))
  go_ret
  exact ⟨rfl, f1.out⟩
set_option maxRecDepth 100000 in
set_option maxHeartbeats 2000000 in
theorem vp8Reads_walkP {T : World → Prop} (H : Tells13 T) (A : Option Addr) (n c : Nat) (bs : List UInt8) (w : World) (hw : T w) (hr : RdS w A n c bs) :
    Calls Try.prog 3 #[.slice A n c] w fun e w' => e = .returned (.bool true) ∧ Below w.heap.size w w' := by
  by_cases hn : n ≤ 2000
  case neg => exact vp8Reads_long H A n c w hw (by omega)
  have hn2 : (n : Int) ≤ 2000 := by omega
  have HA := Lib.hid (alive13 H w hw)
  have hP : ∀ W, T W → RdS W A n c bs → Calls Try.prog 6 #[.slice A n c] W (P13 bs W) := fun W hW h => H.read A n c bs W hW h (by omega)
  have hR : ∀ W, RdS W A n c bs → Calls Try.prog 7 #[.slice A n c] W (R13 bs W) := fun W h => rread13_any A n c bs W h
  unfold P13 vC at hP
  unfold R13 vC at hR
  generalize vpV bs = v at hP hR
  generalize whyV bs = q at hP hR
  generalize plcV bs = p at hR
  obtain ⟨st, part, has, wide, pic, key, head⟩ := v
  have HP : Hid (∀ W, T W → RdS W A n c bs → Calls Try.prog 6 #[.slice A n c] W fun e w' => e = .returned (.tuple #[.agg #[.bool st, .int .u8 (part : Int), .bool has, .bool wide, .int .u16 (pic : Int), .bool key, .int .i64 (head : Int)], .int .i64 (q : Int)]) ∧ Below W.heap.size W w') := Lib.hid hP
  have HR : Hid (∀ W, RdS W A n c bs → Calls Try.prog 7 #[.slice A n c] W fun e w' => e = .returned (.tuple #[.agg #[.bool st, .int .u8 (part : Int), .bool has, .bool wide, .int .u16 (pic : Int), .bool key, .int .i64 (head : Int)], .int .i64 (p : Int), .int .i64 (q : Int)]) ∧ Below W.heap.size W w') := Lib.hid hR
  have HK := Lib.hid H.keep
  have HTW := Lib.hid hw
  have HRD := Lib.hid hr
  clear H hw hr hP hR
  go_enter Try.func3, Try.ntmps3
  go_wp2_with (first
    | (go_at_call 5; ((with_reducible refine (Hid.out HA).mono ?_); rintro e w1 ⟨rfl, hb1⟩; have f1 := Lib.hid hb1; have t1 := Lib.hid (HK.out _ _ HTW.out hb1); have r1 := Lib.hid (HRD.out.below hb1); clear hb1))
    | (go_at_call 6; ((with_reducible refine (Hid.out HP _ t1.out r1.out).mono ?_); rintro e w2 ⟨rfl, hb2⟩; have f2 := Lib.hid (f1.out.trans (hb2.mono f1.out.size)); have x2 := Lib.hid (f2.out.alloc f2.out.size (.cells #[.bool st, .int .u8 (part : Int), .bool has, .bool wide, .int .u16 (pic : Int), .bool key, .int .i64 (head : Int)] 26)); have r2 := Lib.hid (HRD.out.below x2.out); clear hb2))
    | (go_at_call 7; ((with_reducible refine (Hid.out HR _ r2.out).mono ?_); rintro e w3 ⟨rfl, hb3⟩; have f3 := Lib.hid (x2.out.trans (hb3.mono x2.out.size)); have x3 := Lib.hid (f3.out.alloc f3.out.size (.cells #[.bool st, .int .u8 (part : Int), .bool has, .bool wide, .int .u16 (pic : Int), .bool key, .int .i64 (head : Int)] 26)); have k0 : ∀ X, (w3.alloc X).cell? ⟨w2.heap.size, 0, none⟩ = some (.bool st) := fun X => (kept1 hb3 X 0).trans (by rfl); have k1 : ∀ X, (w3.alloc X).cell? ⟨w2.heap.size, 1, none⟩ = some (.int .u8 (part : Int)) := fun X => (kept1 hb3 X 1).trans (by rfl); have k2 : ∀ X, (w3.alloc X).cell? ⟨w2.heap.size, 2, none⟩ = some (.bool has) := fun X => (kept1 hb3 X 2).trans (by rfl); have k3 : ∀ X, (w3.alloc X).cell? ⟨w2.heap.size, 3, none⟩ = some (.bool wide) := fun X => (kept1 hb3 X 3).trans (by rfl); have k4 : ∀ X, (w3.alloc X).cell? ⟨w2.heap.size, 4, none⟩ = some (.int .u16 (pic : Int)) := fun X => (kept1 hb3 X 4).trans (by rfl); have k5 : ∀ X, (w3.alloc X).cell? ⟨w2.heap.size, 5, none⟩ = some (.bool key) := fun X => (kept1 hb3 X 5).trans (by rfl); have k6 : ∀ X, (w3.alloc X).cell? ⟨w2.heap.size, 6, none⟩ = some (.int .i64 (head : Int)) := fun X => (kept1 hb3 X 6).trans (by rfl); clear hb3)))
  go_ret
  exact ⟨rfl, x3.out⟩
end Go.Proofs.Ytpflgkepgoicjaa
