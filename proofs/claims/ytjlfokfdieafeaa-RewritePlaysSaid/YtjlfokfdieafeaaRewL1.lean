/- What the laws of layer 22 ask of package rewrite, as one structure; the document's example. -/
import Derived.Test.YtjlfokfdieafeaaRewNum2
import Derived.Test.YtjlfokfdieafeaaRewR4
import Derived.Test.YtjlfokfdieafeaaTwoK
namespace Go.Proofs.Ytjlfokfdieafeaa
open Go.RowKit
set_option linter.unusedVariables false

/-- A place as a value. -/
def Mpd.v (x : Mpd) : Value := .agg #[.int .i64 x.i, .int .u32 x.st, .int .u16 x.pc]
/-- What the laws ask of package rewrite, T being what is said of a rewriter. -/
structure Tells22 (T : World → Value → Wtr → (Nat → Prop) → Prop) : Prop where
  lone : Lone T
  zero : ∃ zc : Array Value, (∀ w, (zeroValue 32).run Try.prog w = .ok (.agg zc) w) ∧ ∀ w : World, T (w.alloc (.cells zc 32)) (.pointer (some ⟨w.heap.size, 0, none⟩)) wz (fun k => k = w.heap.size)
  start : ∀ (w : World) (q : Addr) (s : Wtr) (F : Nat → Prop) (f : Int), T w (.pointer (some q)) s F → -9223372036854775808 ≤ f ∧ f ≤ 9223372036854775807 → Calls Try.prog 7 #[.pointer (some q), .int .i64 f] w fun e w' => e = .returned (.tuple #[]) ∧ Hid (StpK T (.pointer (some q)) (staW s f) F w w')
  follow : ∀ (w : World) (q : Addr) (s : Wtr) (F : Nat → Prop) (x : Mpd) (B : Int), T w (.pointer (some q)) s F → OkW s B → B ≤ 4611686018427387904 → OkM x → s.O.length ≤ 1000 → Calls Try.prog 10 #[.pointer (some q), .agg #[.int .i64 x.i, .int .u32 x.st, .int .u16 x.pc]] w fun e w' => e = .returned (.int .i64 (folE x)) ∧ Hid (StpK T (.pointer (some q)) (folW s x) F w w')
  map : ∀ (w : World) (q : Addr) (s : Wtr) (F : Nat → Prop) (x : Mpd) (B : Int), T w (.pointer (some q)) s F → OkW s B → B ≤ 9223372036854775807 → OkM x → (s.fol = true → s.he.i + (x.i - s.th.i) ≤ 9223372036854775807) → s.O.length ≤ 1000 → Calls Try.prog 8 #[.pointer (some q), .agg #[.int .i64 x.i, .int .u32 x.st, .int .u16 x.pc]] w fun e w' => e = .returned (.tuple #[.agg #[.int .i64 (mapY s x).i, .int .u32 (mapY s x).st, .int .u16 (mapY s x).pc], .int .i64 (mapE s x)]) ∧ Hid (StpK T (.pointer (some q)) (mapW s x) F w w')
  high : ∀ (w : World) (q : Addr) (s : Wtr) (F : Nat → Prop) (B : Int), T w (.pointer (some q)) s F → OkW s B → s.O.length ≤ 1000 → Calls Try.prog 12 #[.pointer (some q)] w fun e w' => e = .returned (.int .i64 (highW s)) ∧ Hid (Below w.heap.size w w')

section
variable {T : World → Value → Wtr → (Nat → Prop) → Prop} {w0 wx : World} {K : Nat → Prop} {q : Addr} {s : Wtr}
theorem Rew.start (hT : Tells22 T) (h : OnK T w0 K (.pointer (some q)) s wx) (f : Int) (hf : -9223372036854775808 ≤ f ∧ f ≤ 9223372036854775807) :
    Calls Try.prog 7 #[.pointer (some q), .int .i64 f] wx fun e w' => e = .returned (.tuple #[]) ∧ Hid (OnK T w0 K (.pointer (some q)) (staW s f) w' ∧ SamK K wx w') := by
  obtain ⟨F, h1, h2⟩ := h.ex
  refine (hT.start wx q s F f h1 hf).mono ?_
  rintro e w' ⟨rfl, hk⟩
  exact ⟨rfl, Lib.hid (h.stp h2 hk.out)⟩
theorem Rew.follow (hT : Tells22 T) (h : OnK T w0 K (.pointer (some q)) s wx) {B : Int} (ok : OkW s B) (hB : B ≤ 4611686018427387904) (x : Mpd) (hx : OkM x) (hl : s.O.length ≤ 1000) (z : Int) (hz : folE x = z) :
    Calls Try.prog 10 #[.pointer (some q), .agg #[.int .i64 x.i, .int .u32 x.st, .int .u16 x.pc]] wx fun e w' => e = .returned (.int .i64 z) ∧ Hid (OnK T w0 K (.pointer (some q)) (folW s x) w' ∧ SamK K wx w') := by
  obtain ⟨F, h1, h2⟩ := h.ex
  subst hz
  refine (hT.follow wx q s F x B h1 ok hB hx hl).mono ?_
  rintro e w' ⟨rfl, hk⟩
  exact ⟨rfl, Lib.hid (h.stp h2 hk.out)⟩
theorem Rew.map (hT : Tells22 T) (h : OnK T w0 K (.pointer (some q)) s wx) {B : Int} (ok : OkW s B) (hB : B ≤ 9223372036854775807) (x : Mpd) (hx : OkM x) (hs : s.fol = true → s.he.i + (x.i - s.th.i) ≤ 9223372036854775807) (hl : s.O.length ≤ 1000) (y : Mpd) (z : Int) (hy : mapY s x = y) (hz : mapE s x = z) :
    Calls Try.prog 8 #[.pointer (some q), .agg #[.int .i64 x.i, .int .u32 x.st, .int .u16 x.pc]] wx fun e w' => e = .returned (.tuple #[.agg #[.int .i64 y.i, .int .u32 y.st, .int .u16 y.pc], .int .i64 z]) ∧ Hid (OnK T w0 K (.pointer (some q)) (mapW s x) w' ∧ SamK K wx w') := by
  obtain ⟨F, h1, h2⟩ := h.ex
  subst hy
  subst hz
  refine (hT.map wx q s F x B h1 ok hB hx hs hl).mono ?_
  rintro e w' ⟨rfl, hk⟩
  exact ⟨rfl, Lib.hid (h.stp h2 hk.out)⟩
theorem Rew.high (hT : Tells22 T) (h : OnK T w0 K (.pointer (some q)) s wx) {B : Int} (ok : OkW s B) (hl : s.O.length ≤ 1000) (z : Int) (hz : highW s = z) :
    Calls Try.prog 12 #[.pointer (some q)] wx fun e w' => e = .returned (.int .i64 z) ∧ Hid (OnK T w0 K (.pointer (some q)) s w' ∧ SamK K wx w') := by
  obtain ⟨F, h1, h2⟩ := h.ex
  subst hz
  refine (hT.high wx q s F B h1 ok hl).mono ?_
  rintro e w' ⟨rfl, hk⟩
  exact ⟨rfl, Lib.hid (h.on hT.lone hk.out)⟩
/-- A variable is laid beside it: it is kept. -/
theorem Rew.keep (hT : Tells22 T) (h : OnK T w0 K (.pointer (some q)) s wx) (o : Obj) : OnK T w0 (fun k => K k ∨ k = wx.heap.size) (.pointer (some q)) s (wx.alloc o) :=
  (OnK.span hT.lone h ((Below.refl wx.heap.size wx).alloc (Nat.le_refl _) o)).less (fun k hk => hk.imp id (fun e => ⟨by omega, by rw [e]; simp⟩))
/-- A zero rewriter, just laid. -/
theorem Rew.zero (hb : Below w0.heap.size w0 wx) {zc : Array Value} (hz : ∀ w : World, T (w.alloc (.cells zc 32)) (.pointer (some ⟨w.heap.size, 0, none⟩)) wz (fun k => k = w.heap.size)) : OnK T w0 (fun _ => False) (.pointer (some ⟨wx.heap.size, 0, none⟩)) wz (wx.alloc (.cells zc 32)) :=
  OnK.new hb ⟨hz wx, fun k hk => by rw [hk]; exact Nat.le_refl _, (Below.refl _ _).alloc (Nat.le_refl _) _⟩
end
/-- The document's example. -/
def u1 : Wtr := staW wz 100
def u2 : Wtr := folW u1 ⟨7, 0, 0⟩
def u3 : Wtr := mapW u2 ⟨7, 0, 0⟩
def u4 : Wtr := mapW u3 ⟨9, 0, 0⟩
def u5 : Wtr := folW u4 ⟨50, 0, 0⟩
theorem u_ex : mapY u2 ⟨7, 0, 0⟩ = ⟨100, 0, 0⟩ ∧ mapE u2 ⟨7, 0, 0⟩ = 0 ∧ mapY u3 ⟨9, 0, 0⟩ = ⟨102, 0, 0⟩ ∧ mapE u3 ⟨9, 0, 0⟩ = 0 ∧ mapY u5 ⟨50, 0, 0⟩ = ⟨103, 3000, 1⟩ ∧ mapE u5 ⟨50, 0, 0⟩ = 0 := ⟨by kernel_rfl, by kernel_rfl, by kernel_rfl, by kernel_rfl, by kernel_rfl, by kernel_rfl⟩
theorem u_ok : OkW u1 100 ∧ OkW u2 100 ∧ OkW u3 200 ∧ OkW u4 300 ∧ OkW u5 300 := by
  have h1 : OkW u1 100 := staW_ok (wz_ok.mono (by decide)) (by decide)
  have h2 : OkW u2 100 := folW_ok h1 (okM_of (by decide))
  have h3 : OkW u3 200 := (mapW_ok h2 (x := ⟨7, 0, 0⟩) (C := 7) (by decide) (by decide)).mono (by decide)
  have h4 : OkW u4 300 := (mapW_ok h3 (x := ⟨9, 0, 0⟩) (C := 9) (by decide) (by decide)).mono (by decide)
  exact ⟨h1, h2, h3, h4, folW_ok h4 (okM_of (by decide))⟩
theorem u_len : u1.O.length ≤ 1000 ∧ u2.O.length ≤ 1000 ∧ u3.O.length ≤ 1000 ∧ u4.O.length ≤ 1000 ∧ u5.O.length ≤ 1000 := by decide +kernel
theorem u_sum : u2.he.i + (7 - u2.th.i) ≤ 9223372036854775807 ∧ u3.he.i + (9 - u3.th.i) ≤ 9223372036854775807 ∧ u5.he.i + (50 - u5.th.i) ≤ 9223372036854775807 := by decide +kernel
set_option maxRecDepth 100000 in
theorem alive_any22 {T : World → Value → Wtr → (Nat → Prop) → Prop} (hT : Tells22 T) (w : World) : Calls Try.prog 6 #[] w fun e w' => e = .returned (.bool true) ∧ Below w.heap.size w w' := by
  have H := Lib.hid hT
  obtain ⟨zc, hz1, hz2⟩ := hT.zero
  have HO := Lib.hid u_ok
  have HX := Lib.hid u_ex
  have HL := Lib.hid u_len
  have HS := Lib.hid u_sum
  have HZ := Lib.hid (Rew.zero (T := T) (w0 := w) (Below.refl w.heap.size w) hz2)
  have P0 := Lib.hid (Rew.start hT HZ.out 100 (by decide))
  clear hT hz2
  go_enter Try.func6, Try.ntmps6
  go_wp2_with (first
    | (go_at_call 7; ((with_reducible refine (Hid.out P0).mono ?_); rintro e w1 ⟨rfl, HK1⟩; have P1 := Lib.hid (Rew.follow (s := u1) H.out HK1.out.1 HO.out.1 (by decide) ⟨7, 0, 0⟩ (okM_of (by decide)) HL.out.1 0 rfl); clear P0))
    | (go_at_call 10; ((with_reducible refine (Hid.out P1).mono ?_); rintro e w2 ⟨rfl, HK2⟩; have P2 := Lib.hid (Rew.map (s := u2) H.out HK2.out.1 HO.out.2.1 (by decide) ⟨7, 0, 0⟩ (okM_of (by decide)) (fun _ => HS.out.1) HL.out.2.1 _ _ HX.out.1 HX.out.2.1); clear P1))
    | (go_at_call 8; ((with_reducible refine (Hid.out P2).mono ?_); rintro e w3 ⟨rfl, HK3⟩; have P3 := Lib.hid (fun o => Rew.map (s := u3) H.out (Rew.keep H.out HK3.out.1 o) HO.out.2.2.1 (by decide) ⟨9, 0, 0⟩ (okM_of (by decide)) (fun _ => HS.out.2.1) HL.out.2.2.1 _ _ HX.out.2.2.1 HX.out.2.2.2.1); clear P2))
    | (go_at_call 8; ((with_reducible refine (Hid.out P3 _).mono ?_); rintro e w4 ⟨rfl, HK4⟩; have a4 : w4.cell? ⟨w3.heap.size, 0, none⟩ = some (.int .i64 100) := (World.cell?_of_block (a := ⟨w3.heap.size, 0, none⟩) (HK4.out.2 w3.heap.size (.inr rfl))).trans (((BlkV.new w3 35 [.int .i64 100, .int .u32 0, .int .u16 0]).cell 0).trans rfl); have P4 := Lib.hid (fun o => Rew.follow (s := u4) H.out (Rew.keep H.out HK4.out.1 o) HO.out.2.2.2.1 (by decide) ⟨50, 0, 0⟩ (okM_of (by decide)) HL.out.2.2.2.1 0 rfl); clear P3))
    | (go_at_call 10; ((with_reducible refine (Hid.out P4 _).mono ?_); rintro e w5 ⟨rfl, HK5⟩; have a5 : w5.cell? ⟨w3.heap.size, 0, none⟩ = some (.int .i64 100) := (World.cell?_of_block (a := ⟨w3.heap.size, 0, none⟩) (HK5.out.2 w3.heap.size (.inl (.inr rfl)))).trans ((World.cell?_alloc_some w4 _ _ (by rw [a4]; rfl)).trans a4); have b5 : w5.cell? ⟨w4.heap.size, 0, none⟩ = some (.int .i64 102) := (World.cell?_of_block (a := ⟨w4.heap.size, 0, none⟩) (HK5.out.2 w4.heap.size (.inr rfl))).trans (((BlkV.new w4 35 [.int .i64 102, .int .u32 0, .int .u16 0]).cell 0).trans rfl); have P5 := Lib.hid (Rew.map (s := u5) H.out HK5.out.1 HO.out.2.2.2.2 (by decide) ⟨50, 0, 0⟩ (okM_of (by decide)) (fun _ => HS.out.2.2) HL.out.2.2.2.2 _ _ HX.out.2.2.2.2.1 HX.out.2.2.2.2.2); clear P4))
    | (go_at_call 8; ((with_reducible refine (Hid.out P5).mono ?_); rintro e w6 ⟨rfl, HK6⟩; have a6 : w6.cell? ⟨w3.heap.size, 0, none⟩ = some (.int .i64 100) := (World.cell?_of_block (a := ⟨w3.heap.size, 0, none⟩) (HK6.out.2 w3.heap.size (.inl (.inr rfl)))).trans a5; have b6 : w6.cell? ⟨w4.heap.size, 0, none⟩ = some (.int .i64 102) := (World.cell?_of_block (a := ⟨w4.heap.size, 0, none⟩) (HK6.out.2 w4.heap.size (.inr rfl))).trans b5; have hz6 : w3.heap.size < w6.heap.size ∧ w4.heap.size < w6.heap.size := ⟨HK6.out.1.kept _ (.inl (.inr rfl)), HK6.out.1.kept _ (.inr rfl)⟩; have HB6 := Lib.hid HK6.out.1.below; clear P5 a4 a5 b5)))
  go_ret
  exact ⟨rfl, HB6.out.alloc HB6.out.size _⟩
end Go.Proofs.Ytjlfokfdieafeaa
