/- The law's examples of layer 14 (tenaillelaw14), over what package avc tells. No statement is proved here. -/
import Derived.Test.YtbifgglhhhcacaaAvcNum2
import Derived.Test.YtbifgglhhhcacaaElts
import Derived.Test.YtbifgglhhhcacaaReg
namespace Go.Proofs.Ytbifgglhhhcacaa
open Go.RowKit
set_option linter.unusedVariables false

/-- What package avc's Key tells, in worlds of which T holds. -/
structure Tells14 (T : World → Prop) : Prop where
  keep : ∀ w w', T w → Below w.heap.size w w' → T w'
  key : ∀ A n c bs w, T w → RdS w A n c bs → n ≤ 5000 → Calls Try.prog 5 #[.slice A n c] w fun e w' => e = .returned (.bool (keyA bs)) ∧ Below w.heap.size w w'
theorem un_65 : unitsA [101, 0] = ([5], 0) := un_one (by decide) (by decide)
theorem exA1 : keyA [101, 0] = true := by unfold keyA; rw [un_65]; decide
theorem exA2 : keyA [124, 133, 0] = true := by
  unfold keyA
  rw [un_piece (bs := [124, 133, 0]) (by decide) (by decide) (by decide) (by decide)]
  decide
theorem exA3 : keyA [124, 5, 0] = false := by
  unfold keyA
  rw [un_piece (bs := [124, 5, 0]) (by decide) (by decide) (by decide) (by decide)]
  decide
theorem rd_A (w : World) (bs : List UInt8) (n : Nat) (X : Array Value) (hX : X = (cells bs).toArray) (hn : bs.length = n) (hm : n ≤ 1000) : RdS (w.alloc (.cells X 5)) (some ⟨w.heap.size, 0, none⟩) n n bs := by
  have hB : Blk (w.alloc (.cells X 5)) w.heap.size 5 bs := Blk.new_at _ _ _ _ _ rfl hX
  exact hB.rd hn (by omega) (by simp [maxLen]; omega)
set_option maxRecDepth 100000 in
set_option maxHeartbeats 1000000 in
theorem alive14 {T : World → Prop} (H : Tells14 T) (w : World) (hw : T w) : Calls Try.prog 4 #[] w fun e w' => e = .returned (.bool true) ∧ Below w.heap.size w w' := by
  have HK : Hid (∀ (W : World) (bs : List UInt8) (n : Nat) (X : Array Value) (t : Bool), Below w.heap.size w W → X = (cells bs).toArray → bs.length = n → n ≤ 1000 → keyA bs = t → Calls Try.prog 5 #[.slice (some ⟨W.heap.size, 0, none⟩) n n] (W.alloc (.cells X 5)) fun e w' => e = .returned (.bool t) ∧ Below w.heap.size w w') := Lib.hid (fun W bs n X t hb hX hn hm ht => (H.key _ n n bs _ (H.keep _ _ hw (hb.alloc hb.size _)) (rd_A W bs n X hX hn hm) (by omega)).mono (fun e w' ⟨h1, h2⟩ => ⟨by rw [h1, ht], (hb.alloc hb.size _).trans (h2.mono (hb.alloc hb.size (.cells X 5)).size)⟩))
  have H1 : Hid (∀ W : World, Below w.heap.size w W → Calls Try.prog 5 #[.slice (some ⟨W.heap.size, 0, none⟩) 2 2] (W.alloc (.cells #[.int .u8 101, .int .u8 0] 5)) fun e w' => e = .returned (.bool true) ∧ Below w.heap.size w w') := Lib.hid (fun W hb => HK.out W [101, 0] 2 _ true hb rfl rfl (by decide) exA1)
  have H2 : Hid (∀ W : World, Below w.heap.size w W → Calls Try.prog 5 #[.slice (some ⟨W.heap.size, 0, none⟩) 3 3] (W.alloc (.cells #[.int .u8 124, .int .u8 133, .int .u8 0] 5)) fun e w' => e = .returned (.bool true) ∧ Below w.heap.size w w') := Lib.hid (fun W hb => HK.out W [124, 133, 0] 3 _ true hb rfl rfl (by decide) exA2)
  have H3 : Hid (∀ W : World, Below w.heap.size w W → Calls Try.prog 5 #[.slice (some ⟨W.heap.size, 0, none⟩) 3 3] (W.alloc (.cells #[.int .u8 124, .int .u8 5, .int .u8 0] 5)) fun e w' => e = .returned (.bool false) ∧ Below w.heap.size w w') := Lib.hid (fun W hb => HK.out W [124, 5, 0] 3 _ false hb rfl rfl (by decide) exA3)
  have f0 := Lib.hid (Below.refl w.heap.size w)
  clear H hw HK
  go_enter Try.func4, Try.ntmps4
  go_wp2_with (first
    | (go_at_call 5; ((with_reducible refine (Hid.out H1 w f0.out).mono ?_); rintro e w1 ⟨rfl, hb1⟩; have f1 := Lib.hid hb1; clear hb1))
    | (go_at_call 5; ((with_reducible refine (Hid.out H2 w1 f1.out).mono ?_); rintro e w2 ⟨rfl, hb2⟩; have f2 := Lib.hid hb2; clear hb2))
    | (go_at_call 5; ((with_reducible refine (Hid.out H3 w2 f2.out).mono ?_); rintro e w3 ⟨rfl, hb3⟩; have f3 := Lib.hid hb3; clear hb3)))
  go_ret
  exact ⟨rfl, f3.out⟩
end Go.Proofs.Ytbifgglhhhcacaa
