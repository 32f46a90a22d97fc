/- ProbeSteady's walk: of numbers that rise by less than 3000 each all but the first are taken, and the highest index is the first one and all steps. -/
import Derived.Test.YteofkajdcmjbgaaPrbLate
import Derived.Test.YteofkajdcmjbgaaKnt
namespace Go.Proofs.Yteofkajdcmjbgaa
open Go.RowKit
set_option linter.unusedVariables false

set_option maxRecDepth 100000 in
theorem probeSteady_walk (x : Int) (A : Option Addr) (n c : Nat) (zs : List Int) (w : World) (hx : (Lit.int .u16 x).wf = true) (hr : RdK .u16 w A n zs) :
    Calls Try.prog 3 #[.int .u16 x, .slice A n c] w fun e w' => e = .returned (.bool true) ∧ Below w.heap.size w w' := by
  have HAL := Lib.hid (alive_anyP w)
  have hz := zeroSource
  have bx := bounds_u16 hx
  have hns := hr.small
  have HR := Lib.hid hr
  obtain ⟨q, hq⟩ : ∃ q, q = (x + 1) % 65536 := ⟨_, rfl⟩
  have hq0 : 0 ≤ q ∧ q ≤ 65535 := by omega
  have t1 := tak_1 x bx.1 bx.2
  have t2 := tak_second x bx.1 bx.2
  rw [← hq] at t2
  have T1 := Lib.hid (tak_is _ _ x _ t1 (srcok _ _ _ _ _ _ _ (by decide)) bx.1 bx.2)
  have T2 := Lib.hid (tak_is _ _ q _ t2 (srcok _ _ _ _ _ _ _ (by omega)) hq0.1 hq0.2)
  have hwq : IntKind.u16.wrap (x + 1) = q := by rw [u16w, hq]
  have hmq : (x + 1) % 65536 = q := hq.symm
  have hok : Src.ok (0 + 1) ⟨true, 0, q, 0, q, 1, -1⟩ := srcok _ _ _ _ _ _ _ (by omega)
  clear t1 t2 hq hx hr
  go_enter Try.func3, Try.ntmps3
  go_wp2_with (first
    | (go_at_call 6; ((with_reducible refine (Hid.out HAL).mono ?_); rintro e w0 ⟨rfl, b0⟩; have h0 := src_new w0))
    | (go_at_call 7; ((with_reducible refine (Hid.out T1 _ _ h0).mono ?_); rintro e w1 ⟨rfl, h1, o1⟩))
    | (go_at_call 7; ((with_reducible refine (Hid.out T2 _ _ h1).mono ?_); rintro e w2 ⟨rfl, h2, o2⟩)))
  have hb2 : Below w.heap.size w w2 := (b0.alloc b0.size (.cells #[.bool false, .int .i64 0, .int .u16 0, .int .i64 0, .int .i64 0, .int .i64 0, .int .i64 0] 28)).trans ((o1.trans o2).below b0.size)
  have hg0 := b0.size
  obtain ⟨g, hg⟩ : ∃ g, g = w0.heap.size := ⟨_, rfl⟩
  rw [← hg] at h2 hg0 ⊢
  have H2 := Lib.hid (And.intro h2 hb2)
  have HG := Lib.hid hg0
  have HOK := Lib.hid hok
  clear hg h0 h1 h2 hb2 o1 o2 b0 T1 T2 HAL hg0 hok
  go_loopw [6, 7, 8] (fun vs vh vi wr => ∃ (k : Nat) (s : Src) (H y : Int), k ≤ n ∧ k ≤ 200 ∧ 0 ≤ y ∧ y ≤ 65535 ∧ 0 ≤ H ∧ H ≤ 65535 + 3000 * k ∧ vs = .int .u16 y ∧ vh = .int .i64 H ∧ vi = .int .i64 k ∧ Hid (Beg s H ((k : Int) + 1) ∧ s.ok ((k : Int) + 1) ∧ s.h = y) ∧ Hid (SrcAt wr g s ∧ Below w.heap.size w wr)) (fun _ _ i _ => n - (intOf i).toNat)
  case atStart => exact ⟨0, _, q, q, by omega, by omega, hq0.1, hq0.2, hq0.1, by omega, rfl, rfl, rfl, Lib.hid ⟨beg_2 q, HOK.out, rfl⟩, H2⟩
  case round =>
    clear H2 HOK hwq hmq
    obtain ⟨k, s, H, y, hk, hk2, hy0, hy1, hH0, hH1, rfl, rfl, rfl, HS, HE⟩ := hrel
    by_cases hlt : k < n
    · by_cases h2 : k < 200
      · have hki : (k : Int) < (n : Int) := by omega
        have hk2i : (k : Int) < 200 := by omega
        obtain ⟨b, off, rfl, hcs⟩ := HR.out.at_ (by omega)
        have hc := hcs wr HE.out.2 k hlt
        have bz := bounds_u16 (HR.out.wf hlt)
        obtain ⟨z, hz⟩ : ∃ z, z = zs.getD k 0 := ⟨_, rfl⟩
        rw [← hz] at hc bz
        obtain ⟨d, hd⟩ : ∃ d, d = z % 2999 + 1 := ⟨_, rfl⟩
        have hd0 : 1 ≤ d ∧ d ≤ 2999 := by omega
        have hwd : z % 2999 + 1 = d := hd.symm
        obtain ⟨y2, hy2⟩ : ∃ y2, y2 = (y + d) % 65536 := ⟨_, rfl⟩
        have hy20 : 0 ≤ y2 ∧ y2 ≤ 65535 := by omega
        have hwy : IntKind.u16.wrap (y + d) = y2 := by rw [u16w, hy2]
        have hmy : (y + d) % 65536 = y2 := hy2.symm
        obtain ⟨s2, hs2⟩ : ∃ s2, s2 = (takS s y2).2 := ⟨_, rfl⟩
        have key : takS s y2 = (true, s2) ∧ Beg s2 (H + d) (((k + 1 : Nat) : Int) + 1) ∧ s2.ok (((k + 1 : Nat) : Int) + 1) ∧ s2.h = y2 := by
          obtain ⟨hB, hO, hh⟩ := HS.out
          have ht := tak_ahead hB hO hd0.1 (by omega)
          have ho := takS_ok (x := y2) hO hy20.1 hy20.2 (by omega)
          rw [hh, ← hy2, ← hs2] at ht
          rw [← hs2] at ho
          refine ⟨Prod.ext ht.1 hs2.symm, ?_, ?_, ht.2.2.1⟩
          · have := ht.2.1
            rw [show ((k + 1 : Nat) : Int) + 1 = (k : Int) + 1 + 1 by omega]; exact this
          · rw [show ((k + 1 : Nat) : Int) + 1 = (k : Int) + 1 + 1 by omega]; exact ho
        have ok1 : s.ok 1000000000 := HS.out.2.1.mono (by omega)
        have ok2 : s2.ok 1000000000 := key.2.2.1.mono (by omega)
        have T := Lib.hid (tak_is s s2 y2 true key.1 ok1 hy20.1 hy20.2 g)
        have S := Lib.hid (fun wx (h : SrcAt wx g s2) => standing_anyP g s2 wx h ok2)
        have I := Lib.hid (fun wx (h : SrcAt wx g s2) => index_on g s2 y2 wx h key.2.1.on ok2 hy20.1 hy20.2)
        rw [stn_beg key.2.1, show ((k + 1 : Nat) : Int) + 1 = (k : Int) + 2 by omega] at S
        have hix : idxS s2 y2 = H + d := by have := key.2.1.idx; rw [key.2.2.2] at this; exact this
        rw [hix] at I
        obtain ⟨E, hE⟩ : ∃ E, E = H + d - s2.f + 1 := ⟨_, rfl⟩
        rw [← hE] at S
        obtain ⟨Q, hQ⟩ : ∃ Q, H + d = Q := ⟨_, rfl⟩
        rw [hQ] at S I key
        have KEY := Lib.hid key.2
        have hQ0 : 0 ≤ Q ∧ Q ≤ 65535 + 3000 * ((k + 1 : Nat) : Int) := by omega
        clear hz hd hy2 hs2 key ok1 ok2 hix hE hcs
        have HS1 := Lib.hid HE.out.1
        have HE2 := Lib.hid HE.out.2
        have F2 : ∀ wx : World, (Instr.field 31 (.agg #[.int .i64 E, .int .i64 ((k : Int) + 2), .int .i64 Q, .bool true]) 2).run Try.prog wx = .ok (.int .i64 Q) wx := fun _ => by kernel_rfl
        have F1 : ∀ wx : World, (Instr.field 31 (.agg #[.int .i64 E, .int .i64 ((k : Int) + 2), .int .i64 Q, .bool true]) 1).run Try.prog wx = .ok (.int .i64 ((k : Int) + 2)) wx := fun _ => by kernel_rfl
        go_wp2_with (first
          | (go_at_call 7; ((with_reducible refine (Hid.out T _ HS1.out).mono ?_); rintro e w3 ⟨rfl, h3, o3⟩))
          | (go_at_call 8; ((with_reducible refine (Hid.out S _ h3).mono ?_); rintro e w4 ⟨rfl, b4⟩; have h4 := h3.below b4))
          | (go_at_call 8; ((with_reducible refine (Hid.out S _ h4).mono ?_); rintro e w5 ⟨rfl, b5⟩; have h5 := h4.below b5))
          | (go_at_call 9; ((with_reducible refine (Hid.out I _ h5).mono ?_); rintro e w6 ⟨rfl, rfl⟩)))
        have bb : Below w.heap.size w w5 := by
          have a := HE2.out.trans (o3.below HG.out)
          have a2 := a.trans (b4.mono a.size)
          exact a2.trans (b5.mono a2.size)
        go_roundw
        case rel => exact ⟨k + 1, s2, Q, y2, by omega, by omega, hy20.1, hy20.2, hQ0.1, hQ0.2, rfl, rfl, by go_num, KEY, Lib.hid ⟨h5, bb⟩⟩
        case measure => simp [intOf]; omega
      · obtain rfl : k = 200 := by omega
        have hki : (200 : Int) < (n : Int) := by omega
        go_wp2
        go_ret
        exact ⟨rfl, HE.out.2⟩
    · obtain rfl : k = n := by omega
      go_wp2
      go_ret
      exact ⟨rfl, HE.out.2⟩
end Go.Proofs.Yteofkajdcmjbgaa
