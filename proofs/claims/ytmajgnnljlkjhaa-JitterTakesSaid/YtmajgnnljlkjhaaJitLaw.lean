/- The document's example of layer 18, and JitterEven's walk: of packets that come as evenly as their stamps the jitter is 0. -/
import Derived.Test.YtmajgnnljlkjhaaJit2
import Derived.Test.YtmajgnnljlkjhaaKnt
namespace Go.Proofs.Ytmajgnnljlkjhaa
open Go.RowKit
set_option linter.unusedVariables false

/-- A gauge that has just been laid. -/
theorem gau_new (w : World) : GauAt (w.alloc (.cells #[.int .u32 0, .int .u64 0, .int .i64 0] 29)) w.heap.size ggd0 := BlkV.new w 29 ggd0.cells
theorem zeroGauge (w : World) : (zeroValue 29).run Try.prog w = .ok (.agg #[.int .u32 0, .int .u64 0, .int .i64 0]) w := by kernel_rfl
/-- A packet, its outcome known. -/
theorem tak_isJ (s s' : Ggd) (a b : Int) (h : takJ s ((a - b) % 4294967296) = s') (ok : s.ok 1000000000) (a0 : 0 ≤ a) (a1 : a ≤ 4294967295) (b0 : 0 ≤ b) (b1 : b ≤ 4294967295) (g : Nat) (w : World) (hs : GauAt w g s) :
    Calls Try.prog 7 #[.pointer (some ⟨g, 0, none⟩), .int .u32 a, .int .u32 b] w fun e w' => e = .returned (.tuple #[]) ∧ GauAt w' g s' ∧ Only g w w' := by
  have := take_anyJ g s a b w hs ok a0 a1 b0 b1
  rw [h] at this
  exact this
theorem ggdok {N : Int} (y x c : Int) (h : 0 ≤ y ∧ y ≤ 4294967295 ∧ 0 ≤ x ∧ x ≤ 4294967295 ∧ 0 ≤ c ∧ c ≤ N ∧ (c = 0 → y = 0 ∧ x = 0)) : Ggd.ok N ⟨y, x, c⟩ :=
  ⟨h.1, h.2.1, h.2.2.1, h.2.2.2.1, h.2.2.2.2.1, h.2.2.2.2.2.1, h.2.2.2.2.2.2⟩

set_option maxRecDepth 100000 in
theorem alive_anyJ (w : World) : Calls Try.prog 6 #[] w fun e w' => e = .returned (.bool true) ∧ Below w.heap.size w w' := by
  have hz := zeroGauge
  have T1 := Lib.hid (tak_isJ ggd0 ⟨0, 0, 1⟩ 0 0 rfl (ggdok _ _ _ (by decide)) (by decide) (by decide) (by decide) (by decide))
  have T2 := Lib.hid (tak_isJ ⟨0, 0, 1⟩ ⟨0, 0, 2⟩ 10 10 rfl (ggdok _ _ _ (by decide)) (by decide) (by decide) (by decide) (by decide))
  have T3 := Lib.hid (tak_isJ ⟨0, 0, 2⟩ ⟨15, 15, 3⟩ 35 20 rfl (ggdok _ _ _ (by decide)) (by decide) (by decide) (by decide) (by decide))
  have S1 : Hid (∀ g wx, GauAt wx g ⟨15, 15, 3⟩ → Calls Try.prog 9 #[.pointer (some ⟨g, 0, none⟩)] wx fun e w' => e = .returned (.int .u64 15) ∧ wx = w') := Lib.hid fun g wx h => sixteen_anyJ g _ wx h
  have S2 : Hid (∀ g wx, GauAt wx g ⟨15, 15, 3⟩ → Calls Try.prog 10 #[.pointer (some ⟨g, 0, none⟩)] wx fun e w' => e = .returned (.int .u32 0) ∧ wx = w') := Lib.hid fun g wx h => now_anyJ g _ wx h (by decide) (by decide)
  have S3 : Hid (∀ g wx, GauAt wx g ⟨15, 15, 3⟩ → Calls Try.prog 11 #[.pointer (some ⟨g, 0, none⟩)] wx fun e w' => e = .returned (.int .i64 3) ∧ wx = w') := Lib.hid fun g wx h => count_anyJ g _ wx h
  have h0 := gau_new w
  have b0 : Below w.heap.size w (w.alloc (.cells #[.int .u32 0, .int .u64 0, .int .i64 0] 29)) := (Below.refl _ _).alloc (Nat.le_refl _) _
  go_enter Try.func6, Try.ntmps6
  go_wp2_with (first
    | (go_at_call 7; ((with_reducible refine (Hid.out T1 _ _ h0).mono ?_); rintro e w1 ⟨rfl, h1, o1⟩))
    | (go_at_call 7; ((with_reducible refine (Hid.out T2 _ _ h1).mono ?_); rintro e w2 ⟨rfl, h2, o2⟩))
    | (go_at_call 7; ((with_reducible refine (Hid.out T3 _ _ h2).mono ?_); rintro e w3 ⟨rfl, h3, o3⟩))
    | (go_at_call 9; ((with_reducible refine (Hid.out S1 _ _ h3).mono ?_); rintro e w4 ⟨rfl, rfl⟩))
    | (go_at_call 10; ((with_reducible refine (Hid.out S2 _ _ h3).mono ?_); rintro e w5 ⟨rfl, rfl⟩))
    | (go_at_call 11; ((with_reducible refine (Hid.out S3 _ _ h3).mono ?_); rintro e w6 ⟨rfl, rfl⟩)))
  go_ret
  exact ⟨rfl, b0.trans ((o1.trans (o2.trans o3)).below (Nat.le_refl w.heap.size))⟩

/-- A gauge of even packets: it has had k of them, each so long on its way. -/
def evnJ (v : Int) (k : Int) : Ggd := if k = 0 then ggd0 else ⟨v, 0, k⟩
theorem goneZ_self (v : Int) : goneZ v v = 0 := by unfold goneZ; omega
theorem evnJ_tak (v : Int) (k : Nat) : takJ (evnJ v k) v = evnJ v ((k + 1 : Nat) : Int) := by
  have hk : ((k + 1 : Nat) : Int) ≠ 0 := by omega
  by_cases h : (k : Int) = 0
  · have : k = 0 := by omega
    subst this
    rfl
  · have hd : difJ v v = 0 := by simp [difJ, goneZ_self]
    simp only [evnJ, if_neg h, if_neg hk, takJ, hd]
    simp [smoJ]
theorem evnJ_ok (v : Int) (k : Nat) (h0 : 0 ≤ v) (h1 : v ≤ 4294967295) (hk : k ≤ 200) : (evnJ v k).ok 1000000000 := by
  unfold evnJ
  split
  · exact ggd0_ok.mono (by decide)
  · exact ggdok _ _ _ ⟨h0, h1, by omega, by omega, by omega, by omega, fun h => by omega⟩
theorem evnJ_x (v k : Int) : (evnJ v k).x = 0 := by unfold evnJ; split <;> rfl

set_option maxRecDepth 100000 in
theorem jitterEven_walk (a b : Int) (A : Option Addr) (n c : Nat) (zs : List Int) (w : World) (ha : (Lit.int .u32 a).wf = true) (hb : (Lit.int .u32 b).wf = true) (hr : RdK .u16 w A n zs) :
    Calls Try.prog 4 #[.int .u32 a, .int .u32 b, .slice A n c] w fun e w' => e = .returned (.bool true) ∧ Below w.heap.size w w' := by
  have HAL := Lib.hid (alive_anyJ w)
  have hz := zeroGauge
  have ba := bounds_u32 ha
  have bb := bounds_u32 hb
  have hns := hr.small
  have HR := Lib.hid hr
  obtain ⟨v, hv⟩ : ∃ v, v = (a - b) % 4294967296 := ⟨_, rfl⟩
  have hv0 : 0 ≤ v ∧ v ≤ 4294967295 := by omega
  have HV := Lib.hid hv
  clear hr ha hb hv
  go_enter Try.func4, Try.ntmps4
  go_wp2_with (go_at_call 6; ((with_reducible refine (Hid.out HAL).mono ?_); rintro e w0 ⟨rfl, b0⟩; have h0 := gau_new w0))
  have hb2 : Below w.heap.size w (w0.alloc (.cells #[.int .u32 0, .int .u64 0, .int .i64 0] 29)) := b0.alloc b0.size _
  have hg0 := b0.size
  obtain ⟨g, hg⟩ : ∃ g, g = w0.heap.size := ⟨_, rfl⟩
  rw [← hg] at h0 hg0 ⊢
  have H2 := Lib.hid (And.intro h0 hb2)
  have HG := Lib.hid hg0
  clear hg h0 hb2 b0 HAL hg0
  go_loopw [0, 1, 8] (fun va vb vi wr => ∃ (k : Nat) (a b : Int), k ≤ n ∧ k ≤ 100 ∧ 0 ≤ a ∧ a ≤ 4294967295 ∧ 0 ≤ b ∧ b ≤ 4294967295 ∧ va = .int .u32 a ∧ vb = .int .u32 b ∧ vi = .int .i64 k ∧ Hid (v = (a - b) % 4294967296) ∧ Hid (GauAt wr g (evnJ v k) ∧ Below w.heap.size w wr)) (fun _ _ i _ => n - (intOf i).toNat)
  case atStart => exact ⟨0, a, b, by omega, by omega, ba.1, ba.2, bb.1, bb.2, rfl, rfl, rfl, HV, H2⟩
  case round =>
    clear H2 HV ba bb
    obtain ⟨k, a, b, hk, hk2, ha0, ha1, hb0, hb1, rfl, rfl, rfl, HV, HE⟩ := hrel
    by_cases hlt : k < n
    · by_cases h2 : k < 100
      · have hki : (k : Int) < (n : Int) := by omega
        have hk2i : (k : Int) < 100 := by omega
        obtain ⟨bk, off, rfl, hcs⟩ := HR.out.at_ (by omega)
        have bz := bounds_u16 (HR.out.wf hlt)
        have ht := evnJ_tak v k
        have T := Lib.hid (tak_isJ (evnJ v k) (evnJ v ((k + 1 : Nat) : Int)) a b (by rw [← HV.out]; exact ht) (evnJ_ok v k hv0.1 hv0.2 (by omega)) ha0 ha1 hb0 hb1 g)
        have N1 : Hid (∀ wx, GauAt wx g (evnJ v ((k + 1 : Nat) : Int)) → Calls Try.prog 10 #[.pointer (some ⟨g, 0, none⟩)] wx fun e w' => e = .returned (.int .u32 0) ∧ wx = w') := Lib.hid fun wx h => by
          have := now_anyJ g _ wx h (by rw [evnJ_x]; decide) (by rw [evnJ_x]; decide)
          rw [evnJ_x] at this
          exact this
        have S1 : Hid (∀ wx, GauAt wx g (evnJ v ((k + 1 : Nat) : Int)) → Calls Try.prog 9 #[.pointer (some ⟨g, 0, none⟩)] wx fun e w' => e = .returned (.int .u64 0) ∧ wx = w') := Lib.hid fun wx h => by
          have := sixteen_anyJ g _ wx h
          rw [evnJ_x] at this
          exact this
        obtain ⟨z, hz'⟩ : ∃ z, z = zs.getD k 0 := ⟨_, rfl⟩
        rw [← hz'] at bz
        have HC : Hid (∀ wx, Below w.heap.size w wx → wx.cell? ⟨bk, off + k, none⟩ = some (.int .u16 z)) := Lib.hid fun wx hb => by rw [hz']; exact hcs wx hb k hlt
        obtain ⟨p, hp⟩ : ∃ p, p = (a + z) % 4294967296 := ⟨_, rfl⟩
        obtain ⟨q, hq⟩ : ∃ q, q = (b + z) % 4294967296 := ⟨_, rfl⟩
        have hp0 : 0 ≤ p ∧ p ≤ 4294967295 := by omega
        have hq0 : 0 ≤ q ∧ q ≤ 4294967295 := by omega
        have HV2 : Hid (v = (p - q) % 4294967296) := Lib.hid (by rw [HV.out, hp, hq]; omega)
        have hpw : IntKind.u32.wrap (a + z) = p := by rw [u32wJ, hp]
        have hqw : IntKind.u32.wrap (b + z) = q := by rw [u32wJ, hq]
        have hpm : (a + z) % 4294967296 = p := hp.symm
        have hqm : (b + z) % 4294967296 = q := hq.symm
        clear ht hz' hcs hp hq
        go_wp2_with (first
          | (go_at_call 7; ((with_reducible refine (Hid.out T _ HE.out.1).mono ?_); rintro e w3 ⟨rfl, h3, o3⟩; have bb3 := HE.out.2.trans (o3.below HG.out); have hc := HC.out w3 bb3))
          | (go_at_call 10; ((with_reducible refine (Hid.out N1 _ h3).mono ?_); rintro e w4 ⟨rfl, rfl⟩))
          | (go_at_call 9; ((with_reducible refine (Hid.out S1 _ h3).mono ?_); rintro e w5 ⟨rfl, rfl⟩)))
        go_roundw
        case rel => exact ⟨k + 1, p, q, by omega, by omega, hp0.1, hp0.2, hq0.1, hq0.2, rfl, rfl, by go_num, HV2, Lib.hid ⟨h3, bb3⟩⟩
        case measure => simp [intOf]; omega
      · obtain rfl : k = 100 := by omega
        have hki : (100 : Int) < (n : Int) := by omega
        go_wp2
        go_ret
        exact ⟨rfl, HE.out.2⟩
    · obtain rfl : k = n := by omega
      go_wp2
      go_ret
      exact ⟨rfl, HE.out.2⟩
end Go.Proofs.Ytmajgnnljlkjhaa
