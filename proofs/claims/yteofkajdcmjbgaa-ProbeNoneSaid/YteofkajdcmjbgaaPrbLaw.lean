/- The document's example of layer 17, and ProbeNone's walk: no source takes nothing. -/
import Derived.Test.YteofkajdcmjbgaaPrb2
namespace Go.Proofs.Yteofkajdcmjbgaa
open Go.RowKit
set_option linter.unusedVariables false

/-- A source that has just been laid. -/
theorem src_new (w : World) : SrcAt (w.alloc (.cells #[.bool false, .int .i64 0, .int .u16 0, .int .i64 0, .int .i64 0, .int .i64 0, .int .i64 0] 28)) w.heap.size src0 := BlkV.new w 28 src0.cells
theorem zeroSource (w : World) : (zeroValue 28).run Try.prog w = .ok (.agg #[.bool false, .int .i64 0, .int .u16 0, .int .i64 0, .int .i64 0, .int .i64 0, .int .i64 0]) w := by kernel_rfl
/-- A number, its outcome known. -/
theorem tak_is (s s' : Src) (x : Int) (v : Bool) (h : takS s x = (v, s')) (ok : s.ok 1000000000) (x0 : 0 ≤ x) (x1 : x ≤ 65535) (g : Nat) (w : World) (hs : SrcAt w g s) :
    Calls Try.prog 7 #[.pointer (some ⟨g, 0, none⟩), .int .u16 x] w fun e w' => e = .returned (.bool v) ∧ SrcAt w' g s' ∧ Only g w w' := by
  have := take_anyP g s x w hs ok x0 x1
  rw [h] at this
  exact this
theorem srcok {N : Int} (had : Bool) (p h t f c b : Int) (hp : 0 ≤ p ∧ p ≤ 2 ∧ 0 ≤ h ∧ h ≤ 65535 ∧ 0 ≤ t ∧ t ≤ N ∧ 0 ≤ f ∧ f ≤ 65535 ∧ 0 ≤ c ∧ c ≤ N ∧ -1 ≤ b ∧ b ≤ 65535) : Src.ok N ⟨had, p, h, t, f, c, b⟩ :=
  ⟨hp.1, hp.2.1, hp.2.2.1, hp.2.2.2.1, hp.2.2.2.2.1, hp.2.2.2.2.2.1, hp.2.2.2.2.2.2.1, hp.2.2.2.2.2.2.2.1, hp.2.2.2.2.2.2.2.2.1, hp.2.2.2.2.2.2.2.2.2.1, hp.2.2.2.2.2.2.2.2.2.2.1, hp.2.2.2.2.2.2.2.2.2.2.2⟩

set_option maxRecDepth 100000 in
theorem alive_anyP (w : World) : Calls Try.prog 6 #[] w fun e w' => e = .returned (.bool true) ∧ Below w.heap.size w w' := by
  have hz := zeroSource
  have T1 := Lib.hid (tak_is ⟨false, 0, 0, 0, 0, 0, 0⟩ ⟨true, 1, 5, 0, 0, 0, 0⟩ 5 false rfl (srcok _ _ _ _ _ _ _ (by decide)) (by decide) (by decide))
  have T2 := Lib.hid (tak_is ⟨true, 1, 5, 0, 0, 0, 0⟩ ⟨true, 0, 6, 0, 6, 1, -1⟩ 6 true rfl (srcok _ _ _ _ _ _ _ (by decide)) (by decide) (by decide))
  have T3 := Lib.hid (tak_is ⟨true, 0, 6, 0, 6, 1, -1⟩ ⟨true, 0, 7, 0, 6, 2, -1⟩ 7 true rfl (srcok _ _ _ _ _ _ _ (by decide)) (by decide) (by decide))
  have T4 := Lib.hid (tak_is ⟨true, 0, 7, 0, 6, 2, -1⟩ ⟨true, 0, 7, 0, 6, 2, 5001⟩ 5000 false rfl (srcok _ _ _ _ _ _ _ (by decide)) (by decide) (by decide))
  have T5 := Lib.hid (tak_is ⟨true, 0, 7, 0, 6, 2, 5001⟩ ⟨true, 0, 5001, 0, 5001, 1, -1⟩ 5001 true rfl (srcok _ _ _ _ _ _ _ (by decide)) (by decide) (by decide))
  have S1 : Hid (∀ g wx, SrcAt wx g ⟨true, 0, 5001, 0, 5001, 1, -1⟩ → Calls Try.prog 8 #[.pointer (some ⟨g, 0, none⟩)] wx fun e w' => e = .returned (.agg #[.int .i64 1, .int .i64 1, .int .i64 5001, .bool true]) ∧ Below wx.heap.size wx w') := Lib.hid fun g wx h => standing_anyP g _ wx h (srcok _ _ _ _ _ _ _ (by decide))
  have h0 := src_new w
  have b0 : Below w.heap.size w (w.alloc (.cells #[.bool false, .int .i64 0, .int .u16 0, .int .i64 0, .int .i64 0, .int .i64 0, .int .i64 0] 28)) := (Below.refl _ _).alloc (Nat.le_refl _) _
  have he : ∀ wx : World, (binOp .eql 31 (.agg #[.int .i64 1, .int .i64 1, .int .i64 5001, .bool true]) (.agg #[.int .i64 1, .int .i64 1, .int .i64 5001, .bool true])).run Try.prog wx = .ok (.bool true) wx := fun wx => by kernel_rfl
  go_enter Try.func6, Try.ntmps6
  go_wp2_with (first
    | (go_at_call 7; ((with_reducible refine (Hid.out T1 _ _ h0).mono ?_); rintro e w1 ⟨rfl, h1, o1⟩))
    | (go_at_call 7; ((with_reducible refine (Hid.out T2 _ _ h1).mono ?_); rintro e w2 ⟨rfl, h2, o2⟩))
    | (go_at_call 7; ((with_reducible refine (Hid.out T3 _ _ h2).mono ?_); rintro e w3 ⟨rfl, h3, o3⟩))
    | (go_at_call 7; ((with_reducible refine (Hid.out T4 _ _ h3).mono ?_); rintro e w4 ⟨rfl, h4, o4⟩))
    | (go_at_call 7; ((with_reducible refine (Hid.out T5 _ _ h4).mono ?_); rintro e w5 ⟨rfl, h5, o5⟩))
    | (go_at_call 8; ((with_reducible refine (Hid.out S1 _ _ h5).mono ?_); rintro e w6 ⟨rfl, b6⟩)))
  go_ret
  have bb := (o1.trans (o2.trans (o3.trans (o4.trans o5)))).below (Nat.le_refl w.heap.size)
  have b5 := b0.trans bb
  exact ⟨rfl, b5.trans (b6.mono b5.size)⟩

theorem probeNone_walk (x : Int) (w : World) (hi : (Lit.int .u16 x).wf = true) :
    Calls Try.prog 5 #[.int .u16 x] w fun e w' => e = .returned (.bool true) ∧ Below w.heap.size w w' := by
  have HAL := Lib.hid (alive_anyP w)
  have he : ∀ wx : World, (binOp .eql 31 (.agg #[.int .i64 0, .int .i64 0, .int .i64 0, .bool false]) (.agg #[.int .i64 0, .int .i64 0, .int .i64 0, .bool false])).run Try.prog wx = .ok (.bool true) wx := fun wx => by kernel_rfl
  clear hi
  go_enter Try.func5, Try.ntmps5
  go_wp2_with (first
    | (go_at_call 6; ((with_reducible refine (Hid.out HAL).mono ?_); rintro e w1 ⟨rfl, hb1⟩))
    | (go_at_call 7; ((with_reducible refine (take_noneP _ _).mono ?_); rintro e w2 ⟨rfl, rfl⟩))
    | (go_at_call 8; ((with_reducible refine (standing_noneP _).mono ?_); rintro e w3 ⟨rfl, b3⟩))
    | (go_at_call 9; ((with_reducible refine (index_noneP _ _).mono ?_); rintro e w4 ⟨rfl, rfl⟩)))
  go_ret
  exact ⟨rfl, hb1.trans (b3.mono hb1.size)⟩
end Go.Proofs.Yteofkajdcmjbgaa
