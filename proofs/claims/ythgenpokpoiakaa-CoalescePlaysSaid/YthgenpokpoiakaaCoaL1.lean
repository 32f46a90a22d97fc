/- What the laws of layer 24 ask of package coalesce, as one structure; the document's example; CoalesceNone's walk. -/
import Derived.Test.YthgenpokpoiakaaCoaR
namespace Go.Proofs.Ythgenpokpoiakaa
open Go.RowKit
set_option linter.unusedVariables false

/-- What the laws ask of package coalesce, T being what is said of a gate. -/
structure Tells24 (T : World → Value → Gte → (Nat → Prop) → Prop) : Prop where
  lone : Lone T
  new : ∀ (i : Int) (w : World), -9223372036854775808 ≤ i ∧ i ≤ 9223372036854775807 → Calls Try.prog 7 #[.int .i64 i] w fun e w' => ∃ q F, e = .returned (.pointer (some q)) ∧ Hid (T w' (.pointer (some q)) (newG i) F ∧ (∀ k, F k → w.heap.size ≤ k) ∧ Below w.heap.size w w')
  ask : ∀ (w : World) (q : Addr) (s : Gte) (F : Nat → Prop), T w (.pointer (some q)) s F → OkG s → Calls Try.prog 9 #[.pointer (some q)] w fun e w' => e = .returned (.tuple #[]) ∧ Hid (StpK T (.pointer (some q)) (askG s) F w w')
  came : ∀ (w : World) (q : Addr) (s : Gte) (F : Nat → Prop), T w (.pointer (some q)) s F → OkG s → Calls Try.prog 12 #[.pointer (some q)] w fun e w' => e = .returned (.tuple #[]) ∧ Hid (StpK T (.pointer (some q)) (cameG s) F w w')
  due : ∀ (w : World) (q : Addr) (s : Gte) (F : Nat → Prop) (t : Int), T w (.pointer (some q)) s F → OkG s → s.O.length ≤ 1000 → -4611686018427387903 ≤ t ∧ t ≤ 4611686018427387903 → Calls Try.prog 10 #[.pointer (some q), .int .i64 t] w fun e w' => e = .returned (.bool (dueB s t)) ∧ Hid (StpK T (.pointer (some q)) (dueG s t) F w w')
  asked : ∀ (w : World) (q : Addr) (s : Gte) (F : Nat → Prop), T w (.pointer (some q)) s F → OkG s → Calls Try.prog 13 #[.pointer (some q)] w fun e w' => e = .returned (.bool s.a) ∧ ∃ m, w' = w.drewN m
  sent : ∀ (w : World) (q : Addr) (s : Gte) (F : Nat → Prop), T w (.pointer (some q)) s F → OkG s → s.O.length ≤ 1000 → Calls Try.prog 14 #[.pointer (some q)] w fun e w' => e = .returned (.int .i64 s.O.length) ∧ ∃ m, w' = w.drewN m
  askNil : ∀ (w : World), Calls Try.prog 9 #[.pointer none] w fun e w' => e = .returned (.tuple #[]) ∧ Hid (Below w.heap.size w w')
  cameNil : ∀ (w : World), Calls Try.prog 12 #[.pointer none] w fun e w' => e = .returned (.tuple #[]) ∧ Hid (Below w.heap.size w w')
  dueNil : ∀ (w : World) (t : Int), Calls Try.prog 10 #[.pointer none, .int .i64 t] w fun e w' => e = .returned (.bool false) ∧ Hid (Below w.heap.size w w')
  askedNil : ∀ (w : World), Calls Try.prog 13 #[.pointer none] w fun e w' => e = .returned (.bool false) ∧ Hid (Below w.heap.size w w')
  sentNil : ∀ (w : World), Calls Try.prog 14 #[.pointer none] w fun e w' => e = .returned (.int .i64 0) ∧ Hid (Below w.heap.size w w')

section
variable {T : World → Value → Gte → (Nat → Prop) → Prop} {w0 wx : World} {K : Nat → Prop} {q : Addr} {s : Gte}
theorem Coa.ask (hT : Tells24 T) (h : OnK T w0 K (.pointer (some q)) s wx) (ok : OkG s) :
    Calls Try.prog 9 #[.pointer (some q)] wx fun e w' => e = .returned (.tuple #[]) ∧ Hid (OnK T w0 K (.pointer (some q)) (askG s) w') := by
  obtain ⟨F, h1, h2⟩ := h.ex
  refine (hT.ask wx q s F h1 ok).mono ?_
  rintro e w' ⟨rfl, hk⟩
  exact ⟨rfl, Lib.hid (h.stp h2 hk.out).1⟩
theorem Coa.due (hT : Tells24 T) (h : OnK T w0 K (.pointer (some q)) s wx) (ok : OkG s) (hl : s.O.length ≤ 1000) (t : Int) (ht : -4611686018427387903 ≤ t ∧ t ≤ 4611686018427387903) (x : Bool) (hx : dueB s t = x) :
    Calls Try.prog 10 #[.pointer (some q), .int .i64 t] wx fun e w' => e = .returned (.bool x) ∧ Hid (OnK T w0 K (.pointer (some q)) (dueG s t) w') := by
  obtain ⟨F, h1, h2⟩ := h.ex
  subst hx
  refine (hT.due wx q s F t h1 ok hl ht).mono ?_
  rintro e w' ⟨rfl, hk⟩
  exact ⟨rfl, Lib.hid (h.stp h2 hk.out).1⟩
theorem Coa.sent (hT : Tells24 T) (h : OnK T w0 K (.pointer (some q)) s wx) (ok : OkG s) (hl : s.O.length ≤ 1000) (n : Nat) (hn : s.O.length = n) :
    Calls Try.prog 14 #[.pointer (some q)] wx fun e w' => e = .returned (.int .i64 n) ∧ ∃ m, w' = wx.drewN m := by
  obtain ⟨F, h1, h2⟩ := h.ex
  subst hn
  exact hT.sent wx q s F h1 ok hl
end
/-- The document's example. -/
def g0 : Gte := askG (newG 5)
def g1 : Gte := askG (dueG g0 0)
def g2 : Gte := dueG g1 3
def g3 : Gte := dueG g2 5
def g4 : Gte := dueG g3 9
theorem g_ex : dueB g0 0 = true ∧ dueB g1 3 = false ∧ dueB g2 5 = true ∧ dueB g3 9 = false ∧ g4.O.length = 2 := by decide +kernel
theorem g_len : g0.O.length ≤ 1000 ∧ g1.O.length ≤ 1000 ∧ g2.O.length ≤ 1000 ∧ g3.O.length ≤ 1000 ∧ g4.O.length ≤ 1000 := by decide +kernel
theorem g_ok : OkG (newG 5) ∧ OkG g0 ∧ OkG (dueG g0 0) ∧ OkG g1 ∧ OkG g2 ∧ OkG g3 ∧ OkG g4 := by
  have h := newG_ok (i := 5) (by decide)
  have h0 := askG_ok h
  have h01 := dueG_ok h0 (t := 0) (by decide)
  have h1 := askG_ok h01
  have h2 := dueG_ok h1 (t := 3) (by decide)
  have h3 := dueG_ok h2 (t := 5) (by decide)
  exact ⟨h, h0, h01, h1, h2, h3, dueG_ok h3 (by decide)⟩
set_option maxRecDepth 100000 in
theorem alive_any24 {T : World → Value → Gte → (Nat → Prop) → Prop} (hT : Tells24 T) (w : World) : Calls Try.prog 6 #[] w fun e w' => e = .returned (.bool true) ∧ Below w.heap.size w w' := by
  have H := Lib.hid hT
  have HN := Lib.hid (fun wx => hT.new 5 wx (by decide))
  have HO := Lib.hid g_ok
  have HX := Lib.hid g_ex
  have HL := Lib.hid g_len
  clear hT
  go_enter Try.func6, Try.ntmps6
  go_wp2_with (first
    | (go_at_call 7; ((with_reducible refine (Hid.out HN _).mono ?_); rintro e w1 ⟨q, F, rfl, HK⟩; have HO1 := Lib.hid (OnK.new (Below.refl w.heap.size w) HK.out); have P1 := Lib.hid (Coa.ask H.out HO1.out HO.out.1); clear HN HK))
    | (go_at_call 9; ((with_reducible refine (Hid.out P1).mono ?_); rintro e w2 ⟨rfl, HK2⟩; have P2 := Lib.hid (Coa.due (s := g0) H.out HK2.out HO.out.2.1 HL.out.1 0 (by decide) true HX.out.1); clear P1))
    | (go_at_call 10; ((with_reducible refine (Hid.out P2).mono ?_); rintro e w3 ⟨rfl, HK3⟩; have P3 := Lib.hid (Coa.ask H.out HK3.out HO.out.2.2.1); clear P2))
    | (go_at_call 9; ((with_reducible refine (Hid.out P3).mono ?_); rintro e w4 ⟨rfl, HK4⟩; have P4 := Lib.hid (Coa.due (s := g1) H.out HK4.out HO.out.2.2.2.1 HL.out.2.1 3 (by decide) false HX.out.2.1); clear P3))
    | (go_at_call 10; ((with_reducible refine (Hid.out P4).mono ?_); rintro e w5 ⟨rfl, HK5⟩; have P5 := Lib.hid (Coa.due (s := g2) H.out HK5.out HO.out.2.2.2.2.1 HL.out.2.2.1 5 (by decide) true HX.out.2.2.1); clear P4))
    | (go_at_call 10; ((with_reducible refine (Hid.out P5).mono ?_); rintro e w6 ⟨rfl, HK6⟩; have P6 := Lib.hid (Coa.due (s := g3) H.out HK6.out HO.out.2.2.2.2.2.1 HL.out.2.2.2.1 9 (by decide) false HX.out.2.2.2.1); clear P5))
    | (go_at_call 10; ((with_reducible refine (Hid.out P6).mono ?_); rintro e w7 ⟨rfl, HK7⟩; have P7 := Lib.hid (Coa.sent (s := g4) H.out HK7.out HO.out.2.2.2.2.2.2 HL.out.2.2.2.2 2 HX.out.2.2.2.2); clear P6))
    | (go_at_call 14; ((with_reducible refine (Hid.out P7).mono ?_); rintro e w8 ⟨rfl, m8, rfl⟩; clear P7)))
  go_ret
  exact ⟨rfl, HK7.out.below.trans ⟨rfl, rfl, rfl, Nat.le_refl _, fun _ _ => rfl⟩⟩
set_option maxRecDepth 100000 in
theorem coalesceNone_walk {T : World → Value → Gte → (Nat → Prop) → Prop} (hT : Tells24 T) (t : Int) (w : World) : Calls Try.prog 5 #[.int .i64 t] w fun e w' => e = .returned (.bool true) ∧ Below w.heap.size w w' := by
  have HAL := Lib.hid (alive_any24 hT w)
  have P1 := Lib.hid hT.askNil
  have P2 := Lib.hid hT.cameNil
  have P3 := Lib.hid (fun wx => hT.dueNil wx t)
  have P4 := Lib.hid hT.askedNil
  have P5 := Lib.hid hT.sentNil
  clear hT
  go_enter Try.func5, Try.ntmps5
  go_wp2_with (first
    | (go_at_call 6; ((with_reducible refine (Hid.out HAL).mono ?_); rintro e w1 ⟨rfl, hb1⟩))
    | (go_at_call 9; ((with_reducible refine (Hid.out P1 _).mono ?_); rintro e w2 ⟨rfl, hb2⟩))
    | (go_at_call 12; ((with_reducible refine (Hid.out P2 _).mono ?_); rintro e w3 ⟨rfl, hb3⟩))
    | (go_at_call 10; ((with_reducible refine (Hid.out P3 _).mono ?_); rintro e w4 ⟨rfl, hb4⟩))
    | (go_at_call 13; ((with_reducible refine (Hid.out P4 _).mono ?_); rintro e w5 ⟨rfl, hb5⟩))
    | (go_at_call 14; ((with_reducible refine (Hid.out P5 _).mono ?_); rintro e w6 ⟨rfl, hb6⟩)))
  go_ret
  have b2 := hb1.trans (hb2.out.mono hb1.size)
  have b3 := b2.trans (hb3.out.mono b2.size)
  have b4 := b3.trans (hb4.out.mono b3.size)
  have b5 := b4.trans (hb5.out.mono b4.size)
  exact ⟨rfl, b5.trans (hb6.out.mono b5.size)⟩
end Go.Proofs.Ythgenpokpoiakaa
