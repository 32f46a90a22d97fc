/- ProbeLate's walk: behind a beginning a number that is less than 100 behind the highest one is taken, and turns nothing but how many came. -/
import Derived.Test.YteofkajdcmjbgaaPrbLaw
namespace Go.Proofs.Yteofkajdcmjbgaa
open Go.RowKit
set_option linter.unusedVariables false

theorem SrcAt.alloc {w : World} {g : Nat} {s : Src} (k : SrcAt w g s) (o : Obj) : SrcAt (w.alloc o) g s := BlkV.alloc k o
theorem stn_beg {s : Src} {H c : Int} (k : Beg s H c) : stnS s = [.int .i64 (H - s.f + 1), .int .i64 c, .int .i64 H, .bool true] := by
  simp [stnS, k.on, k.hi, k.c]
theorem tak_1 (x : Int) (h : 0 ≤ x) (h' : x ≤ 65535) : takS ⟨false, 0, 0, 0, 0, 0, 0⟩ x = (false, ⟨true, 1, x, 0, 0, 0, 0⟩) := by
  rcases tak_first x with h | h
  · exact h
  · omega
theorem beg_2 (q : Int) : Beg ⟨true, 0, q, 0, q, 1, -1⟩ q 1 := ⟨rfl, rfl, by simp, rfl⟩

set_option maxRecDepth 100000 in
theorem probeLate_walk (x y : Int) (w : World) (hx : (Lit.int .u16 x).wf = true) (hy : (Lit.int .u8 y).wf = true) :
    Calls Try.prog 4 #[.int .u16 x, .int .u8 y] w fun e w' => e = .returned (.bool true) ∧ Below w.heap.size w w' := by
  have HAL := Lib.hid (alive_anyP w)
  have hz := zeroSource
  have hz2 := zeroStanding
  have bx := bounds_u16 hx
  have by_ := bounds_u8 hy
  obtain ⟨q, hq⟩ : ∃ q, q = (x + 1) % 65536 := ⟨_, rfl⟩
  have hq0 : 0 ≤ q ∧ q ≤ 65535 := by omega
  obtain ⟨r, hr⟩ : ∃ r, r = (x + 200) % 65536 := ⟨_, rfl⟩
  have hr0 : 0 ≤ r ∧ r ≤ 65535 := by omega
  have hrq : r = (q + 199) % 65536 := by omega
  obtain ⟨d, hd⟩ : ∃ d, d = y % 99 + 1 := ⟨_, rfl⟩
  have hd0 : 1 ≤ d ∧ d ≤ 99 := by omega
  obtain ⟨z, hz'⟩ : ∃ z, z = (r - d) % 65536 := ⟨_, rfl⟩
  have hz0 : 0 ≤ z ∧ z ≤ 65535 := by omega
  have t1 := tak_1 x bx.1 bx.2
  have t2 := tak_second x bx.1 bx.2
  have t3 := tak_ahead (beg_2 q) (srcok (N := 999) _ _ _ _ _ _ _ (by omega)) (show (1 : Int) ≤ 199 by decide) (by decide)
  have o3 := takS_ok (s := ⟨true, 0, q, 0, q, 1, -1⟩) (N := 999) (x := (q + 199) % 65536) (srcok _ _ _ _ _ _ _ (by omega)) (by omega) (by omega) (by decide)
  rw [← hq] at t2
  simp only [← hrq] at t3 o3
  obtain ⟨s3, hs3⟩ : ∃ s3, s3 = (takS ⟨true, 0, q, 0, q, 1, -1⟩ r).2 := ⟨_, rfl⟩
  have e3 : takS ⟨true, 0, q, 0, q, 1, -1⟩ r = (true, s3) := Prod.ext t3.1 hs3.symm
  rw [← hs3] at t3 o3
  obtain ⟨_, k3, h3h, h3f⟩ := t3
  have t4 := tak_late k3 o3 hd0.1 (by omega)
  rw [h3h, ← hz'] at t4
  obtain ⟨s4, hs4⟩ : ∃ s4 : Src, s4 = { s3 with c := s3.c + 1 } := ⟨_, rfl⟩
  have k4 : Beg s4 (q + 199) (1 + 1 + 1) := by rw [hs4]; exact ⟨k3.had, k3.p, k3.hi, by simp only [k3.c]⟩
  have h4f : s4.f = q := by rw [hs4]; exact h3f
  have hi4 : idxS s4 z = q + 199 - d := by rw [hs4]; exact t4.2
  have e4 : takS s3 z = (true, s4) := by rw [t4.1, hs4, h3h]
  have ok3 : s3.ok 1000000000 := o3.mono (by decide)
  have ok4 : s4.ok 1000000000 := by
    have := takS_ok (x := z) o3 hz0.1 hz0.2 (by decide)
    rw [e4] at this
    exact this.mono (by decide)
  have st3 : stnS s3 = [.int .i64 200, .int .i64 2, .int .i64 (q + 199), .bool true] := by
    rw [stn_beg k3, h3f, show q + 199 - q + 1 = 200 by omega]; rfl
  have st4 : stnS s4 = [.int .i64 200, .int .i64 3, .int .i64 (q + 199), .bool true] := by
    rw [stn_beg k4, h4f, show q + 199 - q + 1 = 200 by omega]; rfl
  have T1 := Lib.hid (tak_is _ _ x _ t1 (srcok _ _ _ _ _ _ _ (by decide)) bx.1 bx.2)
  have T2 := Lib.hid (tak_is _ _ q _ t2 (srcok _ _ _ _ _ _ _ (by omega)) hq0.1 hq0.2)
  have T3 := Lib.hid (tak_is _ _ r _ e3 (srcok _ _ _ _ _ _ _ (by omega)) hr0.1 hr0.2)
  have T4 := Lib.hid (tak_is _ _ z _ e4 ok3 hz0.1 hz0.2)
  have S3 := Lib.hid (fun g wx (h : SrcAt wx g s3) => standing_anyP g s3 wx h ok3)
  have S4 := Lib.hid (fun g wx (h : SrcAt wx g s4) => standing_anyP g s4 wx h ok4)
  have I4 := Lib.hid (fun g wx (h : SrcAt wx g s4) => index_on g s4 z wx h k4.on ok4 hz0.1 hz0.2)
  rw [st3] at S3
  rw [st4] at S4
  rw [hi4] at I4
  obtain ⟨H, hH⟩ : ∃ H, H = q + 199 := ⟨_, rfl⟩
  have hH0 : 199 ≤ H ∧ H ≤ 65734 := by omega
  rw [← hH] at S3 S4 I4
  have hwq : IntKind.u16.wrap (x + 1) = q := by rw [u16w, hq]
  have hwr : IntKind.u16.wrap (x + 200) = r := by rw [u16w, hr]
  have hwz : IntKind.u16.wrap (r - d) = z := by rw [u16w, hz']
  have hmq : (x + 1) % 65536 = q := hq.symm
  have hmr : (x + 200) % 65536 = r := hr.symm
  have hmz : (r - d) % 65536 = z := hz'.symm
  have hwd : y % 99 + 1 = d := hd.symm
  clear t1 t2 t4 e3 e4 hs3 hs4 k3 k4 h3h h3f h4f hi4 ok3 ok4 o3 st3 st4 hq hr hrq hz' hd hH hx hy
  go_enter Try.func4, Try.ntmps4
  go_wp2_with (first
    | (go_at_call 6; ((with_reducible refine (Hid.out HAL).mono ?_); rintro e w0 ⟨rfl, b0⟩; have h0 := src_new w0))
    | (go_at_call 7; ((with_reducible refine (Hid.out T1 _ _ h0).mono ?_); rintro e w1 ⟨rfl, h1, o1⟩))
    | (go_at_call 7; ((with_reducible refine (Hid.out T2 _ _ h1).mono ?_); rintro e w2 ⟨rfl, h2, o2⟩))
    | (go_at_call 7; ((with_reducible refine (Hid.out T3 _ _ h2).mono ?_); rintro e w3 ⟨rfl, h3, o3⟩))
    | (go_at_call 8; ((with_reducible refine (Hid.out S3 _ _ h3).mono ?_); rintro e w4 ⟨rfl, b4⟩; have h4 := h3.below b4))
    | (go_at_call 7; ((with_reducible refine (Hid.out T4 _ _ (h4.alloc _)).mono ?_); rintro e w5 ⟨rfl, h5, o5⟩))
    | (go_at_call 8; ((with_reducible refine (Hid.out S4 _ _ h5).mono ?_); rintro e w6 ⟨rfl, b6⟩)))
  have BW : BlkV w6 w4.heap.size 31 [.int .i64 200, .int .i64 2, .int .i64 H, .bool true] :=
    ((BlkV.new w4 _ _).only o5 (by have := h4.lt; omega)).below b6 (by rw [o5.size]; exact (BlkV.new w4 31 [.int .i64 200, .int .i64 2, .int .i64 H, .bool true]).lt)
  have hs6 := h5.below b6
  have hbb : Below w.heap.size w w6 := by
    have b1 := (b0.alloc b0.size (.cells #[.bool false, .int .i64 0, .int .u16 0, .int .i64 0, .int .i64 0, .int .i64 0, .int .i64 0] 28)).trans ((o1.trans (o2.trans o3)).below b0.size)
    have b2 := b1.trans (b4.mono b1.size)
    have b3 := (b2.alloc b2.size (.cells #[.int .i64 200, .int .i64 2, .int .i64 H, .bool true] 31)).trans (o5.below b0.size)
    exact b3.trans (b6.mono b3.size)
  obtain ⟨g, hg⟩ : ∃ g, g = w0.heap.size := ⟨_, rfl⟩
  obtain ⟨p, hp⟩ : ∃ p, p = w4.heap.size := ⟨_, rfl⟩
  obtain ⟨n, hn⟩ : ∃ n, n = w6.heap.size := ⟨_, rfl⟩
  obtain ⟨W, hW⟩ : ∃ W, W = w6.alloc (.cells #[.int .i64 200, .int .i64 3, .int .i64 H, .bool true] 31) := ⟨_, rfl⟩
  have BN : BlkV W n 31 [.int .i64 200, .int .i64 3, .int .i64 H, .bool true] := by rw [hW, hn]; exact BlkV.new w6 _ _
  have BW2 := BW.alloc (.cells #[.int .i64 200, .int .i64 3, .int .i64 H, .bool true] 31)
  have hs7 := hs6.alloc (.cells #[.int .i64 200, .int .i64 3, .int .i64 H, .bool true] 31)
  have hb7 := hbb.alloc hbb.size (.cells #[.int .i64 200, .int .i64 3, .int .i64 H, .bool true] 31)
  rw [← hW] at BW2 hs7 hb7 ⊢
  rw [← hp] at BW2
  rw [← hg] at hs7
  rw [← hg, ← hp, ← hn]
  have c0 := (BW2.cell 0).trans rfl
  have c1 := (BW2.cell 1).trans rfl
  have c2 := (BW2.cell 2).trans rfl
  have d0 := (BN.cell 0).trans rfl
  have d1 := (BN.cell 1).trans rfl
  have d2 := (BN.cell 2).trans rfl
  have HI := Lib.hid (fun m => I4.out g (W.drewN m) (hs7.below ⟨rfl, rfl, rfl, Nat.le_refl _, fun _ _ => rfl⟩))
  clear BW BW2 BN hs6 hs7 hbb h0 h1 h2 h3 h4 h5 o1 o2 o3 o5 b4 b6 hg hp hn hW b0 T1 T2 T3 T4 S3 S4 I4 HAL hz hz2
  go_quiet ((go_at_call 9; exact Calls.quiet_of_same ((HI.out _).mono fun _ _ ⟨h, h2⟩ => ⟨h, h2.symm⟩)))
  go_wp2
  go_ret
  exact ⟨rfl, hb7.trans ⟨rfl, rfl, rfl, Nat.le_refl _, fun _ _ => rfl⟩⟩
end Go.Proofs.Yteofkajdcmjbgaa
