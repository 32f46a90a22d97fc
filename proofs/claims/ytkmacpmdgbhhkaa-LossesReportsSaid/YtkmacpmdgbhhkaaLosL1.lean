/- What the laws of layer 20 ask of package losses, as one structure; the document's example; LossesNone's walk. -/
import Derived.Test.YtkmacpmdgbhhkaaLosR10
import Derived.Test.YtkmacpmdgbhhkaaLosRep2
import Derived.Test.YtkmacpmdgbhhkaaTwoK
import Derived.Test.YtkmacpmdgbhhkaaRdJ
namespace Go.Proofs.Ytkmacpmdgbhhkaa
open Go.RowKit
set_option linter.unusedVariables false

/-- What the laws ask of package losses, T being what is said of a keeper. -/
structure Tells20 (T : World → Value → Kpr → (Nat → Prop) → Prop) : Prop where
  lone : Lone T
  new : ∀ (p : Int) (w : World), -9223372036854775808 ≤ p ∧ p ≤ 9223372036854775807 → Calls Try.prog 8 #[.int .i64 p] w fun e w' => ∃ q F, e = .returned (.pointer (some q)) ∧ Hid (T w' (.pointer (some q)) (newK p) F ∧ (∀ k, F k → w.heap.size ≤ k) ∧ Below w.heap.size w w')
  came : ∀ (w : World) (q : Addr) (s : Kpr) (F : Nat → Prop) (i tk : Int), T w (.pointer (some q)) s F → KOk s → s.h ≤ 4611686018427387904 → s.p ≤ 1000000000 → -4611686018427387904 ≤ i ∧ i ≤ 4611686018427387904 → -4611686018427387904 ≤ tk ∧ tk ≤ 4611686018427387904 →
    Calls Try.prog 13 #[.pointer (some q), .int .i64 i, .int .i64 tk] w fun e w' => e = .returned (.tuple #[]) ∧ Hid (StpK T (.pointer (some q)) (cameK s i tk) F w w')
  missing : ∀ (w : World) (q : Addr) (s : Kpr) (F : Nat → Prop), T w (.pointer (some q)) s F → KOk s → Calls Try.prog 15 #[.pointer (some q)] w fun e w' => ∃ A c, e = .returned (.slice A s.M.length c) ∧ Hid (RdJ w' A s.M.length (s.M.map (·.i)) ∧ Below w.heap.size w w')
  ask : ∀ (w : World) (q : Addr) (s : Kpr) (F : Nat → Prop) (tk : Int), T w (.pointer (some q)) s F → KOk s → s.h ≤ 4611686018427387904 → s.p ≤ 1000000000 → -4611686018427387904 ≤ tk ∧ tk ≤ 4611686018427387904 →
    Calls Try.prog 11 #[.pointer (some q), .int .i64 tk] w fun e w' => ∃ A c, e = .returned (.slice A (lsL (askK s tk).2).length c) ∧ Hid (RdL w' A (lsL (askK s tk).2).length (lsL (askK s tk).2) ∧ StpB T (.pointer (some q)) (askK s tk).1 F (BlkOf A (lsL (askK s tk).2).length) w w')
  report : ∀ (S Fr0 Lo Hi J La De aE aR aH bE bR bH : Int) (aV bV : Bool) (w : World), -1099511627776 ≤ aE ∧ aE ≤ 1099511627776 → -1099511627776 ≤ aR ∧ aR ≤ 1099511627776 → -1099511627776 ≤ bE ∧ bE ≤ 1099511627776 → -1099511627776 ≤ bR ∧ bR ≤ 1099511627776 →
    Calls Try.prog 17 #[.agg #[.int .u32 S, .int .u8 Fr0, .int .i32 Lo, .int .u32 Hi, .int .u32 J, .int .u32 La, .int .u32 De], .agg #[.int .i64 aE, .int .i64 aR, .int .i64 aH, .bool aV], .agg #[.int .i64 bE, .int .i64 bR, .int .i64 bH, .bool bV]] w fun e w' =>
      e = .returned (.agg #[.int .u32 S, .int .u8 (frcK aE aR bE bR), .int .i32 (lostK bE bR), .int .u32 (bH % 4294967296), .int .u32 J, .int .u32 La, .int .u32 De]) ∧ Below w.heap.size w w'
  cameNil : ∀ (w : World) (i tk : Int), Calls Try.prog 13 #[.pointer none, .int .i64 i, .int .i64 tk] w fun e w' => e = .returned (.tuple #[]) ∧ Hid (Below w.heap.size w w')
  missingNil : ∀ (w : World), Calls Try.prog 15 #[.pointer none] w fun e w' => ∃ A c, e = .returned (.slice A 0 c) ∧ Hid (Below w.heap.size w w')
  askNil : ∀ (w : World) (tk : Int), Calls Try.prog 11 #[.pointer none, .int .i64 tk] w fun e w' => ∃ A c, e = .returned (.slice A 0 c) ∧ Hid (Below w.heap.size w w')

theorem lt_of_same {w w' : World} {b : Nat} (h : w'.heap[b]? = w.heap[b]?) (hb : b < w.heap.size) : b < w'.heap.size := by
  rcases Nat.lt_or_ge b w'.heap.size with h1 | h1
  · exact h1
  · rw [Array.getElem?_eq_none h1, Array.getElem?_eq_getElem hb] at h
    cases h
theorem RdL.sam {w w' : World} {A : Option Addr} {n : Nat} {L : List (Nat × Nat)} (h : RdL w A n L) (hk : ∀ k, BlkOf A n k → w'.heap[k]? = w.heap[k]?) : RdL w' A n L := by
  refine ⟨h.1, h.2.1, h.2.2.1, fun hn => ?_⟩
  obtain ⟨b, off, hA, hlt, hc⟩ := h.2.2.2 hn
  have e : w'.heap[b]? = w.heap[b]? := hk b ⟨hn, ⟨b, off, none⟩, hA, rfl⟩
  exact ⟨b, off, hA, lt_of_same e hlt, fun j hj => ⟨(World.cell?_of_block (a := ⟨b, off + j * 2, none⟩) e).trans (hc j hj).1, (World.cell?_of_block (a := ⟨b, off + j * 2 + 1, none⟩) e).trans (hc j hj).2⟩⟩
section
variable {T : World → Value → Kpr → (Nat → Prop) → Prop} {w0 wx : World} {K : Nat → Prop} {q : Addr} {s : Kpr}
theorem Los.came (hT : Tells20 T) (h : OnK T w0 K (.pointer (some q)) s wx) (ok : KOk s) (h1 : s.h ≤ 4611686018427387904) (h2 : s.p ≤ 1000000000) (i tk : Int) (hi : -4611686018427387904 ≤ i ∧ i ≤ 4611686018427387904) (ht : -4611686018427387904 ≤ tk ∧ tk ≤ 4611686018427387904) :
    Calls Try.prog 13 #[.pointer (some q), .int .i64 i, .int .i64 tk] wx fun e w' => e = .returned (.tuple #[]) ∧ Hid (OnK T w0 K (.pointer (some q)) (cameK s i tk) w' ∧ SamK K wx w') := by
  obtain ⟨F, f1, f2⟩ := h.ex
  refine (hT.came wx q s F i tk f1 ok h1 h2 hi ht).mono ?_
  rintro e w' ⟨rfl, hk⟩
  exact ⟨rfl, Lib.hid (h.stp f2 hk.out)⟩
theorem Los.missing (hT : Tells20 T) (h : OnK T w0 K (.pointer (some q)) s wx) (ok : KOk s) :
    Calls Try.prog 15 #[.pointer (some q)] wx fun e w' => ∃ A c, e = .returned (.slice A s.M.length c) ∧ Hid (RdJ w' A s.M.length (s.M.map (·.i)) ∧ OnK T w0 K (.pointer (some q)) s w' ∧ SamK K wx w' ∧ Below wx.heap.size wx w') := by
  obtain ⟨F, f1, f2⟩ := h.ex
  refine (hT.missing wx q s F f1 ok).mono ?_
  rintro e w' ⟨A, c, rfl, hk⟩
  exact ⟨A, c, rfl, Lib.hid ⟨hk.out.1, (h.on hT.lone hk.out.2).1, (h.on hT.lone hk.out.2).2, hk.out.2⟩⟩
theorem Los.ask (hT : Tells20 T) (h : OnK T w0 K (.pointer (some q)) s wx) (ok : KOk s) (h1 : s.h ≤ 4611686018427387904) (h2 : s.p ≤ 1000000000) (tk : Int) (ht : -4611686018427387904 ≤ tk ∧ tk ≤ 4611686018427387904) (L : List (Nat × Nat)) (n : Nat) (hL : lsL (askK s tk).2 = L) (hn : L.length = n) :
    Calls Try.prog 11 #[.pointer (some q), .int .i64 tk] wx fun e w' => ∃ A c, e = .returned (.slice A n c) ∧ Hid (RdL w' A n L ∧ OnK T w0 (fun k => K k ∨ BlkOf A n k) (.pointer (some q)) (askK s tk).1 w' ∧ SamK K wx w') := by
  obtain ⟨F, f1, f2⟩ := h.ex
  subst hn
  subst hL
  refine (hT.ask wx q s F tk f1 ok h1 h2 ht).mono ?_
  rintro e w' ⟨A, c, rfl, hk⟩
  exact ⟨A, c, rfl, Lib.hid ⟨hk.out.1, h.stpB f2 hk.out.2⟩⟩
end

/-- The document's example. -/
def x0 : Kpr := cameK (cameK (newK 10) 5 1) 8 1
def x1 : Kpr := (askK x0 1).1
def x2 : Kpr := (askK x1 1).1
def x3 : Kpr := cameK x2 7 1
theorem x_ex : lsL (askK x0 1).2 = [(6, 1)] ∧ lsL (askK x1 1).2 = [] ∧ x3.M.map (·.i) = [6] := ⟨by kernel_rfl, by kernel_rfl, by kernel_rfl⟩
theorem x_bd : (newK 10).h ≤ 4611686018427387904 ∧ (cameK (newK 10) 5 1).h ≤ 4611686018427387904 ∧ x0.h ≤ 4611686018427387904 ∧ x1.h ≤ 4611686018427387904 ∧ x2.h ≤ 4611686018427387904 ∧ (newK 10).p ≤ 1000000000 ∧ (cameK (newK 10) 5 1).p ≤ 1000000000 ∧ x0.p ≤ 1000000000 ∧ x1.p ≤ 1000000000 ∧ x2.p ≤ 1000000000 := by decide +kernel
theorem x_ok : KOk (newK 10) ∧ KOk (cameK (newK 10) 5 1) ∧ KOk x0 ∧ KOk x1 ∧ KOk x2 ∧ KOk x3 := by
  have h0 := newK_ok 10
  have h1 := cameK_ok h0 5 1
  have h2 := cameK_ok h1 8 1
  have h3 := askK_ok h2 1
  have h4 := askK_ok h3 1
  exact ⟨h0, h1, h2, h3, h4, cameK_ok h4 7 1⟩

set_option maxRecDepth 100000 in
set_option maxHeartbeats 2000000 in
theorem alive_any20 {T : World → Value → Kpr → (Nat → Prop) → Prop} (hT : Tells20 T) (w : World) : Calls Try.prog 7 #[] w fun e w' => e = .returned (.bool true) ∧ Below w.heap.size w w' := by
  have H := Lib.hid hT
  have HN := Lib.hid (fun wx => hT.new 10 wx (by decide))
  have HO := Lib.hid x_ok
  have HX := Lib.hid x_ex
  have HB := Lib.hid x_bd
  clear hT
  go_enter Try.func7, Try.ntmps7
  go_upto_region 7 with (first
    | (go_at_call 8; ((with_reducible refine (Hid.out HN _).mono ?_); rintro e w1 ⟨q, F, rfl, HK⟩; have HO1 := Lib.hid (OnK.new (Below.refl w.heap.size w) HK.out); have P1 := Lib.hid (Los.came H.out HO1.out HO.out.1 HB.out.1 HB.out.2.2.2.2.2.1 5 1 (by decide) (by decide)); clear HN HK))
    | (go_at_call 13; ((with_reducible refine (Hid.out P1).mono ?_); rintro e w2 ⟨rfl, HK2⟩; have P2 := Lib.hid (Los.came H.out HK2.out.1 HO.out.2.1 HB.out.2.1 HB.out.2.2.2.2.2.2.1 8 1 (by decide) (by decide)); clear P1))
    | (go_at_call 13; ((with_reducible refine (Hid.out P2).mono ?_); rintro e w3 ⟨rfl, HK3⟩; have P3 := Lib.hid (Los.ask (s := x0) H.out HK3.out.1 HO.out.2.2.1 HB.out.2.2.1 HB.out.2.2.2.2.2.2.2.1 1 (by decide) [(6, 1)] 1 HX.out.1 rfl); clear P2))
    | (go_at_call 11; ((with_reducible refine (Hid.out P3).mono ?_); rintro e w4 ⟨Aa, ca, rfl, HK4⟩; have P4 := Lib.hid (Los.ask (s := x1) H.out HK4.out.2.1 HO.out.2.2.2.1 HB.out.2.2.2.1 HB.out.2.2.2.2.2.2.2.2.1 1 (by decide) [] 0 HX.out.2.1 rfl); clear P3))
    | (go_at_call 11; ((with_reducible refine (Hid.out P4).mono ?_); rintro e w5 ⟨Ab, cb, rfl, HK5⟩; have P5 := Lib.hid (Los.came (s := x2) H.out HK5.out.2.1 HO.out.2.2.2.2.1 HB.out.2.2.2.2.1 HB.out.2.2.2.2.2.2.2.2.2 7 1 (by decide) (by decide)); clear P4))
    | (go_at_call 13; ((with_reducible refine (Hid.out P5).mono ?_); rintro e w6 ⟨rfl, HK6⟩; have P6 := Lib.hid (Los.missing (s := x3) H.out HK6.out.1 HO.out.2.2.2.2.2); clear P5))
    | (go_at_call 15; ((with_reducible refine (Hid.out P6).mono ?_); rintro e w7 ⟨Am, cm, rfl, HK7⟩; clear P6)))
  have hml : x3.M.length = 1 := by have := congrArg List.length HX.out.2.2; simpa using this
  rw [hml] at HK7 ⊢
  have SA : ∀ k, BlkOf Aa 1 k → w7.heap[k]? = w4.heap[k]? := fun k hk => (HK7.out.2.2.1 k (.inl (.inr hk))).trans ((HK6.out.2 k (.inl (.inr hk))).trans (HK5.out.2.2 k (.inr hk)))
  have hra := HK4.out.1.sam SA
  obtain ⟨b, off, rfl, hb, hca⟩ := hra.2.2.2 (by omega)
  obtain ⟨ca0, ca1⟩ := hca 0 (by omega)
  obtain ⟨b2, off2, rfl, hb2, hcm⟩ := HK7.out.1.2 (by omega)
  have cm0 := hcm 0 (by omega)
  rw [HX.out.2.2] at cm0
  simp at ca0 ca1 cm0
  have HE := Lib.hid HK7.out.2.1.below
  clear SA hra hca hcm HK7 HK6 HK5 HK4 HK3 HK2 HO1
  go_wp2
  go_ret
  exact ⟨rfl, HE.out⟩
end Go.Proofs.Ytkmacpmdgbhhkaa
