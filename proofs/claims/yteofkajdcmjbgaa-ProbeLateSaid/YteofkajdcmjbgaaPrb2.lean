/- Contracts of package probe: a number in probation, one behind the beginning, any one. No statement is proved here. -/
import Derived.Test.YteofkajdcmjbgaaPrb1
namespace Go.Proofs.Yteofkajdcmjbgaa
open Go.RowKit
set_option linter.unusedVariables false

theorem u16w (n : Int) : IntKind.u16.wrap n = n % 65536 := by simp [IntKind.wrap, IntKind.bits, IntKind.signed]

theorem prove_anyP (g : Nat) (s : Src) (x : Int) (w : World) (hs : SrcAt w g s) (N : Int) (ok : s.ok N) (x0 : 0 ≤ x) (x1 : x ≤ 65535) :
    Calls Try.prog 10 #[.pointer (some ⟨g, 0, none⟩), .int .u16 x] w fun e w' => e = .returned (.bool (prvS s x).1) ∧ SrcAt w' g (prvS s x).2 ∧ Only g w w' := by
  have HBG := Lib.hid (begin_anyP g s x w hs x0 x1)
  have c0 := hs.c0
  have c1 := hs.c1
  have c2 := hs.c2
  have f1 := hs.fr 1
  have f2 := hs.fr 2
  have p0 := ok.p0; have p2 := ok.p2; have h0 := ok.h0; have h1 := ok.h1
  have HF : Hid (∀ p, SrcAt ((w.setCell ⟨g, 1, none⟩ (.int .i64 p)).setCell ⟨g, 2, none⟩ (.int .u16 x)) g { s with p := p, h := x } ∧ Only g w ((w.setCell ⟨g, 1, none⟩ (.int .i64 p)).setCell ⟨g, 2, none⟩ (.int .u16 x))) := Lib.hid fun p =>
    ⟨BlkV.set_ (BlkV.set_ hs 1 _) 2 _, ((Only.refl g w).trans (Only.set _ _ _ _)).trans (Only.set _ _ _ _)⟩
  clear hs ok
  obtain ⟨had, p, h, t, f, c, b⟩ := s
  simp only [prvS] at c0 c1 c2 p0 p2 h0 h1 HF ⊢
  obtain ⟨q, hq⟩ : ∃ q, q = (h + 1) % 65536 := ⟨_, rfl⟩
  have hq0 : 0 ≤ q ∧ q ≤ 65535 := by omega
  have hqw : IntKind.u16.wrap (h + 1) = q := by rw [u16w, hq]
  have hqm : (h + 1) % 65536 = q := hq.symm
  rw [← hq]
  clear hq
  by_cases hx : x = q
  · rw [if_neg (by omega)]
    subst hx
    by_cases hp : 1 < p
    · rw [if_pos hp]
      go_enter Try.func10, Try.ntmps10
      go_wp2
      go_ret
      exact ⟨rfl, (HF.out (p - 1)).1, (HF.out (p - 1)).2⟩
    · rw [if_neg hp]
      have hp' : p ≤ 1 := by omega
      go_enter Try.func10, Try.ntmps10
      go_wp2_with (go_at_call 13; ((with_reducible refine (Hid.out HBG).mono ?_); rintro e w1 ⟨rfl, k1, o1⟩))
      go_ret
      exact ⟨rfl, k1, o1⟩
  · have hxb : (x != q) = true := by simpa using hx
    rw [if_pos hx]
    go_enter Try.func10, Try.ntmps10
    go_wp2
    go_ret
    exact ⟨rfl, (HF.out 1).1, (HF.out 1).2⟩

theorem follow_anyP (g : Nat) (s : Src) (x : Int) (w : World) (hs : SrcAt w g s) (ok : s.ok 1000000000) (x0 : 0 ≤ x) (x1 : x ≤ 65535) :
    Calls Try.prog 11 #[.pointer (some ⟨g, 0, none⟩), .int .u16 x] w fun e w' => e = .returned (.bool (folS s x).1) ∧ SrcAt w' g (folS s x).2 ∧ Only g w w' := by
  have HBG := Lib.hid (begin_anyP g s x w hs x0 x1)
  have c2 := hs.c2
  have c3 := hs.c3
  have c5 := hs.c5
  have c6 := hs.c6
  have f2 := hs.fr 2
  have f3 := hs.fr 3
  have f5 := hs.fr 5
  have f6 := hs.fr 6
  have h0 := ok.h0; have h1 := ok.h1; have t0 := ok.t0; have t1 := ok.t1; have k0 := ok.c0; have k1 := ok.c1; have b0 := ok.b0; have b1 := ok.b1
  have HF1 : Hid (∀ t c, SrcAt (((w.setCell ⟨g, 3, none⟩ (.int .i64 t)).setCell ⟨g, 2, none⟩ (.int .u16 x)).setCell ⟨g, 5, none⟩ (.int .i64 c)) g { s with h := x, t := t, c := c } ∧ Only g w (((w.setCell ⟨g, 3, none⟩ (.int .i64 t)).setCell ⟨g, 2, none⟩ (.int .u16 x)).setCell ⟨g, 5, none⟩ (.int .i64 c))) := Lib.hid fun t c =>
    ⟨BlkV.set_ (BlkV.set_ (BlkV.set_ hs 3 _) 2 _) 5 _, (((Only.refl g w).trans (Only.set _ _ _ _)).trans (Only.set _ _ _ _)).trans (Only.set _ _ _ _)⟩
  have HF2 : Hid (∀ c, SrcAt ((w.setCell ⟨g, 2, none⟩ (.int .u16 x)).setCell ⟨g, 5, none⟩ (.int .i64 c)) g { s with h := x, c := c } ∧ Only g w ((w.setCell ⟨g, 2, none⟩ (.int .u16 x)).setCell ⟨g, 5, none⟩ (.int .i64 c))) := Lib.hid fun c =>
    ⟨BlkV.set_ (BlkV.set_ hs 2 _) 5 _, ((Only.refl g w).trans (Only.set _ _ _ _)).trans (Only.set _ _ _ _)⟩
  have HF3 : Hid (∀ c, SrcAt (w.setCell ⟨g, 5, none⟩ (.int .i64 c)) g { s with c := c } ∧ Only g w (w.setCell ⟨g, 5, none⟩ (.int .i64 c))) := Lib.hid fun c =>
    ⟨BlkV.set_ hs 5 _, (Only.refl g w).trans (Only.set _ _ _ _)⟩
  have HF4 : Hid (∀ c, SrcAt (w.setCell ⟨g, 6, none⟩ (.int .i64 c)) g { s with b := c } ∧ Only g w (w.setCell ⟨g, 6, none⟩ (.int .i64 c))) := Lib.hid fun c =>
    ⟨BlkV.set_ hs 6 _, (Only.refl g w).trans (Only.set _ _ _ _)⟩
  clear hs ok
  obtain ⟨had, p, h, t, f, c, b⟩ := s
  simp only [folS] at c2 c3 c5 c6 h0 h1 t0 t1 k0 k1 b0 b1 HF1 HF2 HF3 HF4 ⊢
  obtain ⟨d, hd⟩ : ∃ d, d = (x - h) % 65536 := ⟨_, rfl⟩
  have hd0 : 0 ≤ d ∧ d ≤ 65535 := by omega
  have hdw : IntKind.u16.wrap (x - h) = d := by rw [u16w, hd]
  have hdm : (x - h) % 65536 = d := hd.symm
  rw [← hd]
  clear hd
  by_cases g1 : d < 3000
  · rw [if_pos g1]
    by_cases g2 : x < h
    · simp only [if_pos g2]
      go_enter Try.func11, Try.ntmps11
      go_wp2
      go_ret
      exact ⟨rfl, (HF1.out _ _).1, (HF1.out _ _).2⟩
    · simp only [if_neg g2]
      have g2' : h ≤ x := by omega
      go_enter Try.func11, Try.ntmps11
      go_wp2
      go_ret
      exact ⟨rfl, (HF2.out _).1, (HF2.out _).2⟩
  · rw [if_neg g1]
    have g1' : 3000 ≤ d := by omega
    by_cases g3 : 65436 < d
    · rw [if_pos g3]
      go_enter Try.func11, Try.ntmps11
      go_wp2
      go_ret
      exact ⟨rfl, (HF3.out _).1, (HF3.out _).2⟩
    · rw [if_neg g3]
      have g3' : d ≤ 65436 := by omega
      by_cases g4 : x = b
      · rw [if_pos g4]
        subst g4
        go_enter Try.func11, Try.ntmps11
        go_wp2_with (go_at_call 13; ((with_reducible refine (Hid.out HBG).mono ?_); rintro e w1 ⟨rfl, k1, o1⟩))
        go_ret
        exact ⟨rfl, k1, o1⟩
      · rw [if_neg g4]
        have g4b : (x == b) = false := by simpa using g4
        obtain ⟨q, hq⟩ : ∃ q, q = (x + 1) % 65536 := ⟨_, rfl⟩
        have hq0 : 0 ≤ q ∧ q ≤ 65535 := by omega
        have hqw : IntKind.u16.wrap (x + 1) = q := by rw [u16w, hq]
        have hqm : (x + 1) % 65536 = q := hq.symm
        rw [← hq]
        clear hq
        go_enter Try.func11, Try.ntmps11
        go_wp2
        go_ret
        exact ⟨rfl, (HF4.out q).1, (HF4.out q).2⟩

theorem take_noneP (x : Int) (w : World) :
    Calls Try.prog 7 #[.pointer none, .int .u16 x] w fun e w' => e = .returned (.bool false) ∧ w = w' := by
  go_enter Try.func7, Try.ntmps7
  go_wp2
  go_ret
  exact ⟨rfl, rfl⟩
theorem take_anyP (g : Nat) (s : Src) (x : Int) (w : World) (hs : SrcAt w g s) (ok : s.ok 1000000000) (x0 : 0 ≤ x) (x1 : x ≤ 65535) :
    Calls Try.prog 7 #[.pointer (some ⟨g, 0, none⟩), .int .u16 x] w fun e w' => e = .returned (.bool (takS s x).1) ∧ SrcAt w' g (takS s x).2 ∧ Only g w w' := by
  have HF : Hid (SrcAt (((w.setCell ⟨g, 0, none⟩ (.bool true)).setCell ⟨g, 1, none⟩ (.int .i64 2)).setCell ⟨g, 2, none⟩ (.int .u16 ((x - 1) % 65536))) g { s with had := true, p := 2, h := (x - 1) % 65536 } ∧ Only g w (((w.setCell ⟨g, 0, none⟩ (.bool true)).setCell ⟨g, 1, none⟩ (.int .i64 2)).setCell ⟨g, 2, none⟩ (.int .u16 ((x - 1) % 65536)))) := Lib.hid
    ⟨BlkV.set_ (BlkV.set_ (BlkV.set_ hs 0 _) 1 _) 2 _, (((Only.refl g w).trans (Only.set _ _ _ _)).trans (Only.set _ _ _ _)).trans (Only.set _ _ _ _)⟩
  have f0 := hs.fr 0
  have f1 := hs.fr 1
  have f2 := hs.fr 2
  have c0 := hs.c0
  have c1 := hs.c1
  have c2 := hs.c2
  have p0 := ok.p0
  have oks := strS_ok (x := x) ok
  unfold takS
  by_cases hh : s.had = true
  · have e : strS s x = s := by simp [strS, hh]
    rw [e]
    rw [hh] at c0
    by_cases hp : 0 < s.p
    · rw [if_pos hp]
      have HP := Lib.hid (prove_anyP g s x w hs _ ok x0 x1)
      obtain ⟨p, hpe⟩ : ∃ p, p = s.p := ⟨_, rfl⟩
      rw [← hpe] at c1 hp
      clear hs ok HF e hpe oks p0
      go_enter Try.func7, Try.ntmps7
      go_wp2_with (go_at_call 10; ((with_reducible refine (Hid.out HP).mono ?_); rintro e w1 ⟨rfl, k1, o1⟩))
      go_ret
      exact ⟨rfl, k1, o1⟩
    · rw [if_neg hp]
      have HP := Lib.hid (follow_anyP g s x w hs ok x0 x1)
      obtain ⟨p, hpe⟩ : ∃ p, p = s.p := ⟨_, rfl⟩
      rw [← hpe] at c1 hp p0
      obtain rfl : p = 0 := by omega
      clear hs ok HF e hpe oks p0 hp
      go_enter Try.func7, Try.ntmps7
      go_wp2_with (go_at_call 11; ((with_reducible refine (Hid.out HP).mono ?_); rintro e w1 ⟨rfl, k1, o1⟩))
      go_ret
      exact ⟨rfl, k1, o1⟩
  · have hh' : s.had = false := by simpa using hh
    have e : strS s x = { s with had := true, p := 2, h := (x - 1) % 65536 } := by simp [strS, hh']
    rw [e] at oks ⊢
    rw [hh'] at c0
    rw [if_pos (show (0 : Int) < 2 by decide)]
    have HP := Lib.hid (prove_anyP g _ x _ HF.out.1 _ oks x0 x1)
    have HO := Lib.hid HF.out.2
    obtain ⟨S, hS⟩ : ∃ S : Src, S = { s with had := true, p := 2, h := (x - 1) % 65536 } := ⟨_, rfl⟩
    rw [← hS] at HP ⊢
    obtain ⟨q, hq⟩ : ∃ q, q = (x - 1) % 65536 := ⟨_, rfl⟩
    have hqw : IntKind.u16.wrap (x - 1) = q := by rw [u16w, hq]
    have hqm : (x - 1) % 65536 = q := hq.symm
    rw [← hq] at HP HO
    clear hs ok HF e oks p0 hS hq hh
    go_enter Try.func7, Try.ntmps7
    go_wp2_with (go_at_call 10; ((with_reducible refine (Hid.out HP).mono ?_); rintro e w1 ⟨rfl, k1, o1⟩))
    go_ret
    exact ⟨rfl, k1, HO.out.trans o1⟩
end Go.Proofs.Yteofkajdcmjbgaa
