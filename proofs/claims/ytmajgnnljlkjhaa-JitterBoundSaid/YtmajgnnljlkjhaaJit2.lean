/- Contracts of package jitter: a packet. No statement is proved here. -/
import Derived.Test.YtmajgnnljlkjhaaJit1
import Derived.Deep.RegionLaw
namespace Go.Proofs.Ytmajgnnljlkjhaa
open Go.RowKit
set_option linter.unusedVariables false

theorem u32wJ (n : Int) : IntKind.u32.wrap n = n % 4294967296 := by simp [IntKind.wrap, IntKind.bits, IntKind.signed]
theorem numbers_zero (w : World) : (zeroValue 27).run Try.prog w = .ok (.agg #[.int .u32 0, .int .u64 0, .int .i64 0]) w := by kernel_rfl

theorem take_noneJ (a b : Int) (w : World) :
    Calls Try.prog 7 #[.pointer none, .int .u32 a, .int .u32 b] w fun e w' => e = .returned (.tuple #[]) ∧ w = w' := by
  go_enter Try.func7, Try.ntmps7
  go_wp2
  exact bodyPost_ret (results_none rfl _ _ _) rfl ⟨rfl, rfl⟩

theorem take_anyJ (g : Nat) (s : Ggd) (a b : Int) (w : World) (hs : GauAt w g s) (ok : s.ok 1000000000) (a0 : 0 ≤ a) (a1 : a ≤ 4294967295) (b0 : 0 ≤ b) (b1 : b ≤ 4294967295) :
    Calls Try.prog 7 #[.pointer (some ⟨g, 0, none⟩), .int .u32 a, .int .u32 b] w fun e w' => e = .returned (.tuple #[]) ∧ GauAt w' g (takJ s ((a - b) % 4294967296)) ∧ Only g w w' := by
  have c0 := hs.c0
  have c1 := hs.c1
  have c2 := hs.c2
  have f0 := hs.fr 0
  have f1 := hs.fr 1
  have f2 := hs.fr 2
  have HF1 : Hid (∀ wx x y c, GauAt wx g s → GauAt (((wx.setCell ⟨g, 1, none⟩ (.int .u64 x)).setCell ⟨g, 0, none⟩ (.int .u32 y)).setCell ⟨g, 2, none⟩ (.int .i64 c)) g ⟨y, x, c⟩ ∧ Only g wx (((wx.setCell ⟨g, 1, none⟩ (.int .u64 x)).setCell ⟨g, 0, none⟩ (.int .u32 y)).setCell ⟨g, 2, none⟩ (.int .i64 c))) := Lib.hid fun wx x y c hs =>
    ⟨BlkV.set_ (BlkV.set_ (BlkV.set_ hs 1 _) 0 _) 2 _, (((Only.refl g wx).trans (Only.set _ _ _ _)).trans (Only.set _ _ _ _)).trans (Only.set _ _ _ _)⟩
  have HF2 : Hid (∀ y c, GauAt ((w.setCell ⟨g, 0, none⟩ (.int .u32 y)).setCell ⟨g, 2, none⟩ (.int .i64 c)) g { s with y := y, c := c } ∧ Only g w ((w.setCell ⟨g, 0, none⟩ (.int .u32 y)).setCell ⟨g, 2, none⟩ (.int .i64 c))) := Lib.hid fun y c =>
    ⟨BlkV.set_ (BlkV.set_ hs 0 _) 2 _, ((Only.refl g w).trans (Only.set _ _ _ _)).trans (Only.set _ _ _ _)⟩
  obtain ⟨v, hv⟩ : ∃ v, v = (a - b) % 4294967296 := ⟨_, rfl⟩
  have hv0 : 0 ≤ v ∧ v ≤ 4294967295 := by omega
  have hvw : IntKind.u32.wrap (a - b) = v := by rw [u32wJ, hv]
  have hvm : (a - b) % 4294967296 = v := hv.symm
  have hz := numbers_zero
  rw [← hv]
  clear hv
  obtain ⟨y, x, c⟩ := s
  have y0 := ok.y0; have y1 := ok.y1; have x0 := ok.x0; have x1 := ok.x1; have k0 := ok.c0; have k1 := ok.c1; have kn := ok.none
  have HS := Lib.hid hs
  clear ok hs
  simp only [takJ] at c0 c1 c2 y0 y1 x0 x1 k0 k1 kn HF1 HF2 HS ⊢
  by_cases hc : c = 0
  · rw [if_pos hc]
    obtain ⟨rfl, rfl⟩ := kn hc
    subst hc
    have he := numbers_new
    clear HF1 kn
    go_enter Try.func7, Try.ntmps7
    go_wp2
    go_end0
    exact ⟨rfl, (HF2.out v 1).1, (HF2.out v 1).2⟩
  · rw [if_neg hc]
    have he := numbers_had y x c hc
    have hd := difJ_bd y v
    have HD : Hid (∀ wx, Calls Try.prog 13 #[.int .u32 y, .int .u32 v] wx fun e w' => e = .returned (.int .u64 (difJ y v)) ∧ wx = w') := Lib.hid fun wx => differ_anyJ y v wx y0 y1 hv0.1 hv0.2
    obtain ⟨d, hd'⟩ : ∃ d, d = difJ y v := ⟨_, rfl⟩
    rw [← hd'] at hd HD ⊢
    have HM : Hid (∀ wx, Calls Try.prog 12 #[.int .u64 x, .int .u64 d] wx fun e w' => e = .returned (.int .u64 (smoJ x d)) ∧ wx = w') := Lib.hid fun wx => smooth_anyJ x d wx x0 x1 hd.1 hd.2
    have hm := smoJ_bd x0 x1 hd.1
    obtain ⟨m, hm'⟩ : ∃ m, m = smoJ x d := ⟨_, rfl⟩
    rw [← hm'] at hm HM ⊢
    clear hd' hm' HF2 kn hc
    go_enter Try.func7, Try.ntmps7
    go_wp2
    go_region_law (first
      | (go_simp; go_at_call 13; (with_reducible refine (Hid.out HD _).mono ?_); rintro e w1 ⟨rfl, rfl⟩)
      | (go_simp; go_at_call 12; (with_reducible refine (Hid.out HM _).mono ?_); rintro e w1 ⟨rfl, rfl⟩))
    all_goals (try go_wp2)
    all_goals (go_end0; exact ⟨rfl, (HF1.out _ _ _ _ HS.out).1, (HF1.out _ _ _ _ HS.out).2.drew⟩)
end Go.Proofs.Ytmajgnnljlkjhaa
