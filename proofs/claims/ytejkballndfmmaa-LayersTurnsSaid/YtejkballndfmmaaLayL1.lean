/- What the laws of layer 23 ask of package layers, as one structure; the document's example; LayersNone's walk. -/
import Derived.Test.YtejkballndfmmaaLayR
namespace Go.Proofs.Ytejkballndfmmaa
open Go.RowKit
set_option linter.unusedVariables false

/-- What the laws ask of package layers, T being what is said of a chooser. -/
structure Tells23 (T : World → Value → Chs → (Nat → Prop) → Prop) : Prop where
  lone : Lone T
  new_no : ∀ (m : Int) (w : World), -9223372036854775808 ≤ m ∧ m ≤ 9223372036854775807 → ¬ (1 ≤ m ∧ m ≤ 4) → Calls Try.prog 7 #[.int .i64 m] w fun e w' => e = .returned (.pointer none) ∧ Hid (Below w.heap.size w w')
  new_ok : ∀ (m : Int) (w : World), 1 ≤ m ∧ m ≤ 4 → Calls Try.prog 7 #[.int .i64 m] w fun e w' => ∃ q F, e = .returned (.pointer (some q)) ∧ Hid (T w' (.pointer (some q)) (newC m) F ∧ (∀ k, F k → w.heap.size ≤ k) ∧ Below w.heap.size w w')
  want : ∀ (w : World) (q : Addr) (s : Chs) (F : Nat → Prop) (l : Int), T w (.pointer (some q)) s F → OkC s → -9223372036854775808 ≤ l ∧ l ≤ 9223372036854775807 → Calls Try.prog 11 #[.pointer (some q), .int .i64 l] w fun e w' => e = .returned (.int .i64 (wantE s l)) ∧ Hid (StpK T (.pointer (some q)) (wantS s l) F w w')
  take : ∀ (w : World) (q : Addr) (s : Chs) (F : Nat → Prop) (l : Int) (k : Bool), T w (.pointer (some q)) s F → OkC s → -9223372036854775808 ≤ l ∧ l ≤ 9223372036854775807 → Calls Try.prog 9 #[.pointer (some q), .int .i64 l, .bool k] w fun e w' => e = .returned (.tuple #[.bool (takeA s l k), .bool (takeT s l k)]) ∧ Hid (StpK T (.pointer (some q)) (takeS s l k) F w w')
  wanted : ∀ (w : World) (q : Addr) (s : Chs) (F : Nat → Prop), T w (.pointer (some q)) s F → OkC s → Calls Try.prog 13 #[.pointer (some q)] w fun e w' => e = .returned (.int .i64 s.w) ∧ ∃ m, w' = w.drewN m
  goes : ∀ (w : World) (q : Addr) (s : Chs) (F : Nat → Prop), T w (.pointer (some q)) s F → OkC s → Calls Try.prog 14 #[.pointer (some q)] w fun e w' => e = .returned (.int .i64 s.g) ∧ ∃ m, w' = w.drewN m
  needs : ∀ (w : World) (q : Addr) (s : Chs) (F : Nat → Prop), T w (.pointer (some q)) s F → OkC s → Calls Try.prog 15 #[.pointer (some q)] w fun e w' => e = .returned (.bool (s.w != s.g)) ∧ ∃ m, w' = w.drewN m
  wantNil : ∀ (w : World) (l : Int), Calls Try.prog 11 #[.pointer none, .int .i64 l] w fun e w' => e = .returned (.int .i64 1) ∧ Hid (Below w.heap.size w w')
  takeNil : ∀ (w : World) (l : Int) (k : Bool), Calls Try.prog 9 #[.pointer none, .int .i64 l, .bool k] w fun e w' => e = .returned (.tuple #[.bool false, .bool false]) ∧ Hid (Below w.heap.size w w')
  wantedNil : ∀ (w : World), Calls Try.prog 13 #[.pointer none] w fun e w' => e = .returned (.int .i64 (-1)) ∧ Hid (Below w.heap.size w w')
  goesNil : ∀ (w : World), Calls Try.prog 14 #[.pointer none] w fun e w' => e = .returned (.int .i64 (-1)) ∧ Hid (Below w.heap.size w w')
  needsNil : ∀ (w : World), Calls Try.prog 15 #[.pointer none] w fun e w' => e = .returned (.bool false) ∧ Hid (Below w.heap.size w w')

section
variable {T : World → Value → Chs → (Nat → Prop) → Prop} {w0 wx : World} {K : Nat → Prop} {q : Addr} {s : Chs}
theorem Lay.want (hT : Tells23 T) (h : OnK T w0 K (.pointer (some q)) s wx) (ok : OkC s) (l : Int) (hl : -9223372036854775808 ≤ l ∧ l ≤ 9223372036854775807) (z : Int) (hz : wantE s l = z) :
    Calls Try.prog 11 #[.pointer (some q), .int .i64 l] wx fun e w' => e = .returned (.int .i64 z) ∧ Hid (OnK T w0 K (.pointer (some q)) (wantS s l) w' ∧ SamK K wx w') := by
  obtain ⟨F, h1, h2⟩ := h.ex
  subst hz
  refine (hT.want wx q s F l h1 ok hl).mono ?_
  rintro e w' ⟨rfl, hk⟩
  exact ⟨rfl, Lib.hid (h.stp h2 hk.out)⟩
theorem Lay.take (hT : Tells23 T) (h : OnK T w0 K (.pointer (some q)) s wx) (ok : OkC s) (l : Int) (k : Bool) (hl : -9223372036854775808 ≤ l ∧ l ≤ 9223372036854775807) (x y : Bool) (hx : takeA s l k = x) (hy : takeT s l k = y) :
    Calls Try.prog 9 #[.pointer (some q), .int .i64 l, .bool k] wx fun e w' => e = .returned (.tuple #[.bool x, .bool y]) ∧ Hid (OnK T w0 K (.pointer (some q)) (takeS s l k) w' ∧ SamK K wx w') := by
  obtain ⟨F, h1, h2⟩ := h.ex
  subst hx
  subst hy
  refine (hT.take wx q s F l k h1 ok hl).mono ?_
  rintro e w' ⟨rfl, hk⟩
  exact ⟨rfl, Lib.hid (h.stp h2 hk.out)⟩
theorem drewN_bel (w : World) (m : Nat) : Below w.heap.size w (w.drewN m) := ⟨rfl, rfl, rfl, Nat.le_refl _, fun _ _ => rfl⟩
end
/-- The document's example. -/
def y1 : Chs := wantS (newC 2) 1
def y2 : Chs := takeS y1 1 false
theorem y_ex : wantE (newC 2) 1 = 0 ∧ takeA y1 1 false = false ∧ takeT y1 1 false = false ∧ takeA y2 1 true = true ∧ takeT y2 1 true = true := by decide +kernel
theorem y_ok : OkC (newC 2) ∧ OkC y1 ∧ OkC y2 := by
  have h0 := newC_ok (m := 2) (by decide)
  have h1 := wantS_ok h0 1
  exact ⟨h0, h1, takeS_ok h1 1 false⟩
set_option maxRecDepth 100000 in
theorem alive_any23 {T : World → Value → Chs → (Nat → Prop) → Prop} (hT : Tells23 T) (w : World) : Calls Try.prog 6 #[] w fun e w' => e = .returned (.bool true) ∧ Below w.heap.size w w' := by
  have H := Lib.hid hT
  have HN := Lib.hid (fun wx => hT.new_ok 2 wx (by decide))
  have HO := Lib.hid y_ok
  have HX := Lib.hid y_ex
  clear hT
  go_enter Try.func6, Try.ntmps6
  go_wp2_with (first
    | (go_at_call 7; ((with_reducible refine (Hid.out HN _).mono ?_); rintro e w1 ⟨q, F, rfl, HK⟩; have HO1 := Lib.hid (OnK.new (Below.refl w.heap.size w) HK.out); have P1 := Lib.hid (Lay.want H.out HO1.out HO.out.1 1 (by decide) 0 HX.out.1); clear HN HK))
    | (go_at_call 11; ((with_reducible refine (Hid.out P1).mono ?_); rintro e w2 ⟨rfl, HK2⟩; have P2 := Lib.hid (Lay.take (s := y1) H.out HK2.out.1 HO.out.2.1 1 false (by decide) false false HX.out.2.1 HX.out.2.2.1); clear P1))
    | (go_at_call 9; ((with_reducible refine (Hid.out P2).mono ?_); rintro e w3 ⟨rfl, HK3⟩; have P3 := Lib.hid (Lay.take (s := y2) H.out HK3.out.1 HO.out.2.2 1 true (by decide) true true HX.out.2.2.2.1 HX.out.2.2.2.2); clear P2))
    | (go_at_call 9; ((with_reducible refine (Hid.out P3).mono ?_); rintro e w4 ⟨rfl, HK4⟩; clear P3)))
  go_ret
  exact ⟨rfl, HK4.out.1.below⟩
set_option maxRecDepth 100000 in
theorem layersNone_walk {T : World → Value → Chs → (Nat → Prop) → Prop} (hT : Tells23 T) (l : Int) (k : Bool) (w : World) : Calls Try.prog 5 #[.int .i64 l, .bool k] w fun e w' => e = .returned (.bool true) ∧ Below w.heap.size w w' := by
  have HAL := Lib.hid (alive_any23 hT w)
  have P1 := Lib.hid (fun wx => hT.takeNil wx l k)
  have P2 := Lib.hid (fun wx => hT.wantNil wx l)
  have P3 := Lib.hid hT.wantedNil
  have P4 := Lib.hid hT.goesNil
  have P5 := Lib.hid hT.needsNil
  clear hT
  go_enter Try.func5, Try.ntmps5
  go_wp2_with (first
    | (go_at_call 6; ((with_reducible refine (Hid.out HAL).mono ?_); rintro e w1 ⟨rfl, hb1⟩))
    | (go_at_call 9; ((with_reducible refine (Hid.out P1 _).mono ?_); rintro e w2 ⟨rfl, hb2⟩))
    | (go_at_call 11; ((with_reducible refine (Hid.out P2 _).mono ?_); rintro e w3 ⟨rfl, hb3⟩))
    | (go_at_call 13; ((with_reducible refine (Hid.out P3 _).mono ?_); rintro e w4 ⟨rfl, hb4⟩))
    | (go_at_call 14; ((with_reducible refine (Hid.out P4 _).mono ?_); rintro e w5 ⟨rfl, hb5⟩))
    | (go_at_call 15; ((with_reducible refine (Hid.out P5 _).mono ?_); rintro e w6 ⟨rfl, hb6⟩)))
  go_ret
  have b2 := hb1.trans (hb2.out.mono hb1.size)
  have b3 := b2.trans (hb3.out.mono b2.size)
  have b4 := b3.trans (hb4.out.mono b3.size)
  have b5 := b4.trans (hb5.out.mono b4.size)
  exact ⟨rfl, b5.trans (hb6.out.mono b5.size)⟩
end Go.Proofs.Ytejkballndfmmaa
