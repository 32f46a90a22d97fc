/- RewriteAbove's walk: behind another source's beginning all places are above all that were. -/
import Derived.Test.YtjlfokfdieafeaaRewL1
import Derived.Test.YtjlfokfdieafeaaFields
namespace Go.Proofs.Ytjlfokfdieafeaa
open Go.RowKit
set_option linter.unusedVariables false

theorem sum_ok22 {s : Wtr} {B C : Int} (k : OkW s B) {x : Mpd} (hC : x.i ≤ C) (h : B + C ≤ 9223372036854775807) : s.fol = true → s.he.i + (x.i - s.th.i) ≤ 9223372036854775807 := fun hf => by
  have h1 := k.th.2 hf
  have h2 := k.he.1.2
  omega
/-- A rewriter behind k steps. -/
def St22 (T : World → Value → Wtr → (Nat → Prop) → Prop) (w0 : World) (q : Addr) (k : Nat) (s : Wtr) (wr : World) : Prop :=
  OnK T w0 (fun _ => False) (.pointer (some q)) s wr ∧ OkW s ((k : Int) * 46116860184273880) ∧ s.O.length ≤ k
section
variable {T : World → Value → Wtr → (Nat → Prop) → Prop} {w0 wx : World} {q : Addr} {s : Wtr} {k : Nat}
theorem St22.follow (hT : Tells22 T) (h : St22 T w0 q k s wx) (hk : k ≤ 90) (x : Mpd) (hx : OkM x) (z : Int) (hz : folE x = z) :
    Calls Try.prog 10 #[.pointer (some q), .agg #[.int .i64 x.i, .int .u32 x.st, .int .u16 x.pc]] wx fun e w' => e = .returned (.int .i64 z) ∧ Hid (St22 T w0 q k (folW s x) w') := by
  refine (Rew.follow hT h.1 h.2.1 (by omega) x hx (by have := h.2.2; omega) z hz).mono ?_
  rintro e w' ⟨rfl, hk⟩
  exact ⟨rfl, Lib.hid ⟨hk.out.1, folW_ok h.2.1 hx, by rw [folW_len]; exact h.2.2⟩⟩
theorem St22.map (hT : Tells22 T) (h : St22 T w0 q k s wx) (hk : k ≤ 90) (x : Mpd) (hx : OkM x) (hC : x.i ≤ 46116860184273879) (y : Mpd) (z : Int) (hy : mapY s x = y) (hz : mapE s x = z) :
    Calls Try.prog 8 #[.pointer (some q), .agg #[.int .i64 x.i, .int .u32 x.st, .int .u16 x.pc]] wx fun e w' => e = .returned (.tuple #[.agg #[.int .i64 y.i, .int .u32 y.st, .int .u16 y.pc], .int .i64 z]) ∧ Hid (St22 T w0 q (k + 1) (mapW s x) w') := by
  refine (Rew.map hT h.1 h.2.1 (by omega) x hx (sum_ok22 h.2.1 hC (by omega)) (by have := h.2.2; omega) y z hy hz).mono ?_
  rintro e w' ⟨rfl, hk⟩
  exact ⟨rfl, Lib.hid ⟨hk.out.1, (mapW_ok h.2.1 hC (by decide)).mono (by rw [Int.natCast_add]; omega), by have := mapW_len s x; have := h.2.2; omega⟩⟩
theorem St22.high (hT : Tells22 T) (h : St22 T w0 q k s wx) (hk : k ≤ 90) (z : Int) (hz : highW s = z) :
    Calls Try.prog 12 #[.pointer (some q)] wx fun e w' => e = .returned (.int .i64 z) ∧ Hid (St22 T w0 q k s w') := by
  refine (Rew.high hT h.1 h.2.1 (by have := h.2.2; omega) z hz).mono ?_
  rintro e w' ⟨rfl, hk⟩
  exact ⟨rfl, Lib.hid ⟨hk.out.1, h.2⟩⟩
theorem St22.on (hT : Tells22 T) (h : St22 T w0 q k s wx) (o : Obj) : St22 T w0 q k s (wx.alloc o) := ⟨(OnK.on hT.lone h.1 ((Below.refl wx.heap.size wx).alloc (Nat.le_refl _) o)).1, h.2⟩
end
/-- What is above all that were: the rewriter behind another source's beginning. -/
theorem above_start {s : Wtr} {B : Int} (k : OkW s B) {x : Mpd} (hx : 0 ≤ x.i) : highW s < (folW s x).he.i := by
  unfold folW
  rw [if_neg (by omega)]
  simp only
  rcases hereW_above s with ⟨h1, h2, h3⟩ | h
  · have := k.first.1; omega
  · omega
theorem above_map {s : Wtr} {h : Int} (hh : h < s.he.i) (x : Mpd) : h < (mapW s x).he.i ∧ (mapE s x = 0 → h < (mapY s x).i) := by
  refine ⟨?_, fun h0 => ?_⟩
  · unfold mapW
    split
    · exact hh
    · exact hh
  · obtain ⟨_, _, h3⟩ := mapE_ok h0
    unfold mapY
    rw [if_pos h0]
    unfold plcW
    simp only
    omega
/-- What any packet that comes in is. -/
def OkM2 (x : Mpd) : Prop := (-9223372036854775808 ≤ x.i ∧ x.i ≤ 9223372036854775807) ∧ (0 ≤ x.st ∧ x.st < 4294967296) ∧ 0 ≤ x.pc ∧ x.pc < 65536
/-- An element of a slice of places. -/
theorem mpd_at {w : World} {A : Option Addr} {n : Nat} {z : Nat → Nat → Value} (hr : RdF [.int .i64, .int .u32, .int .u16] w A n z) {k : Nat} (hk : k < n) :
    ∃ b off, ∃ x : Mpd, A = some ⟨b, off, none⟩ ∧ OkM2 x ∧ ∀ wx, Below w.heap.size w wx → wx.cell? ⟨b, off + k * 3, none⟩ = some (.int .i64 x.i) ∧ wx.cell? ⟨b, off + k * 3 + 1, none⟩ = some (.int .u32 x.st) ∧ wx.cell? ⟨b, off + k * 3 + 2, none⟩ = some (.int .u16 x.pc) := by
  obtain ⟨b, off, hA, hcs⟩ := hr.at_ (by omega)
  obtain ⟨v0, h0, w0⟩ := hr.2.1 k hk 0 _ rfl
  obtain ⟨v1, h1, w1⟩ := hr.2.1 k hk 1 _ rfl
  obtain ⟨v2, h2, w2⟩ := hr.2.1 k hk 2 _ rfl
  have b0 := bounds_i64 w0
  have b1 := bounds_u32 w1
  have b2 := bounds_u16 w2
  exact ⟨b, off, ⟨v0, v1, v2⟩, hA, ⟨b0, by simp only; omega, by simp only; omega⟩, fun wx hb => ⟨by rw [← h0]; exact hcs wx hb k hk 0 (by decide), by rw [← h1]; exact hcs wx hb k hk 1 (by decide), by rw [← h2]; exact hcs wx hb k hk 2 (by decide)⟩⟩
set_option maxRecDepth 100000 in
set_option maxHeartbeats 4000000 in
theorem rewriteAbove_walk {T : World → Value → Wtr → (Nat → Prop) → Prop} (hT : Tells22 T) (A0 : Option Addr) (n0 c0 : Nat) (z0 : Nat → Nat → Value) (xi xs xp : Int) (A2 : Option Addr) (n2 c2 : Nat) (z2 : Nat → Nat → Value) (w : World) (hr0 : RdF [.int .i64, .int .u32, .int .u16] w A0 n0 z0) (hx0 : -9223372036854775808 ≤ xi ∧ xi ≤ 9223372036854775807) (hx1 : 0 ≤ xs ∧ xs < 4294967296) (hx2 : 0 ≤ xp ∧ xp < 65536) (hr2 : RdF [.int .i64, .int .u32, .int .u16] w A2 n2 z2) :
    Calls Try.prog 5 #[.slice A0 n0 c0, .agg #[.int .i64 xi, .int .u32 xs, .int .u16 xp], .slice A2 n2 c2] w fun e w' => e = .returned (.bool true) ∧ Below w.heap.size w w' := by
  have H := Lib.hid hT
  obtain ⟨zc, hz1, hz2⟩ := hT.zero
  have HZ2 := Lib.hid hz2
  have HAL := Lib.hid (fun wx => alive_any22 hT wx)
  have hn0 := hr0.small
  have hn2 := hr2.small
  have HR0 := Lib.hid (fun k hk => mpd_at hr0 (k := k) hk)
  have HR2 := Lib.hid (fun k hk => mpd_at hr2 (k := k) hk)
  have HBX : Hid (∀ o, Below w.heap.size w (w.alloc o)) := Lib.hid (fun o => (Below.refl _ _).alloc (Nat.le_refl _) _)
  clear hT hz2 hr0 hr2
  go_enter Try.func5, Try.ntmps5
  go_wp2_with (go_at_call 6; ((with_reducible refine (Hid.out HAL _).mono ?_); rintro e wa ⟨rfl, hba⟩; have kx : BlkV wa w.heap.size 35 [.int .i64 xi, .int .u32 xs, .int .u16 xp] := BlkV.below (BlkV.new_at w _ 35 [.int .i64 xi, .int .u32 xs, .int .u16 xp] _ rfl rfl) hba (by simp); have HKX := Lib.hid kx; have HBA := Lib.hid ((HBX.out _).trans (hba.mono (HBX.out _).size)); have HST : Hid (St22 T wa ⟨wa.heap.size, 0, none⟩ 0 wz (wa.alloc (.cells zc 32))) := Lib.hid ⟨Rew.zero (T := T) (w0 := wa) (wx := wa) (Below.refl _ _) HZ2.out, wz_ok, Nat.le_refl _⟩; clear hba kx))
  have HEX : Hid (∀ k s wr, St22 T wa ⟨wa.heap.size, 0, none⟩ k s wr → Below w.heap.size w wr) := Lib.hid (fun k s wr h => HBA.out.trans (h.1.below.mono HBA.out.size))
  obtain ⟨p, hp⟩ : ∃ p, p = wa.heap.size := ⟨_, rfl⟩
  have HPE := Lib.hid hp
  rw [← hp] at HST HEX ⊢
  clear hp
  go_loopw [8] (fun vi wr => ∃ (k : Nat) (s : Wtr), k ≤ n0 ∧ k ≤ 30 ∧ vi = .int .i64 k ∧ Hid (St22 T wa ⟨p, 0, none⟩ k s wr)) (fun i _ => n0 - (intOf i).toNat)
  case atStart => exact ⟨0, _, by omega, by omega, rfl, HST⟩
  case round =>
    clear HST HZ2 HAL hz1
    obtain ⟨k, s, hk, hk3, rfl, HS⟩ := hrel
    by_cases hlt : k < n0 ∧ k < 30
    · obtain ⟨hl1, hl2⟩ := hlt
      have hki : (k : Int) < (n0 : Int) := by omega
      have hk3i : (k : Int) < 30 := by omega
      obtain ⟨b, off, x, rfl, hx, hcs⟩ := HR0.out k hl1
      obtain ⟨i, st, pc⟩ := x
      simp only at hcs
      have HCS := Lib.hid hcs
      obtain ⟨d0, d1, d2⟩ := hcs wr (HEX.out _ _ _ HS.out)
      have HX := Lib.hid hx
      clear hcs hx
      by_cases g1 : i < 0
      · have HE := Lib.hid (HEX.out _ _ _ HS.out)
        clear HS
        go_wp2
        go_ret
        exact ⟨rfl, HE.out⟩
      · by_cases g2 : 46116860184273879 < i
        · have HE := Lib.hid (HEX.out _ _ _ HS.out)
          clear HS
          go_wp2
          go_ret
          exact ⟨rfl, HE.out⟩
        · have hok : OkM ⟨i, st, pc⟩ := ⟨⟨HX.out.1.1, by simp only; omega⟩, HX.out.2⟩
          have HOM := Lib.hid hok
          have hC : (⟨i, st, pc⟩ : Mpd).i ≤ 46116860184273879 := by simp only; omega
          have HC := Lib.hid hC
          have f0 : folE ⟨i, st, pc⟩ = 0 := by unfold folE; rw [if_neg g1]
          by_cases h0 : k = 0
          · have P1 := Lib.hid (St22.follow H.out HS.out (by omega) ⟨i, st, pc⟩ HOM.out 0 f0)
            have P2 := Lib.hid (fun wx h => St22.map (T := T) (w0 := wa) (q := ⟨p, 0, none⟩) (s := folW s ⟨i, st, pc⟩) (k := k) (wx := wx) H.out h (by omega) ⟨i, st, pc⟩ HOM.out HC.out _ _ rfl rfl)
            obtain ⟨y, hy⟩ : ∃ y, y = mapY (folW s ⟨i, st, pc⟩) ⟨i, st, pc⟩ := ⟨_, rfl⟩
            obtain ⟨ez, hez⟩ : ∃ ez, ez = mapE (folW s ⟨i, st, pc⟩) ⟨i, st, pc⟩ := ⟨_, rfl⟩
            rw [← hy, ← hez] at P2
            clear hy hez hok hC f0 HS
            subst h0
            simp only [Nat.zero_mul, Nat.add_zero] at d0 d1 d2
            go_wp2_with (first
              | (go_at_call 10; ((with_reducible refine (Hid.out P1).mono ?_); rintro e w2 ⟨rfl, HK2⟩; obtain ⟨e0, e1, e2⟩ := HCS.out w2 (HEX.out _ _ _ HK2.out); simp only [Nat.zero_mul, Nat.add_zero] at e0 e1 e2; have P3 := Lib.hid (P2.out _ HK2.out); clear P1 P2))
              | (go_at_call 8; ((with_reducible refine (Hid.out P3).mono ?_); rintro e w3 ⟨rfl, HK3⟩; clear P3)))
            go_roundw
            case rel => exact ⟨0 + 1, _, by omega, by omega, by go_num, HK3⟩
            case measure => (simp [intOf]; try omega)
          · have h0i : ((k : Int) == 0) = false := beq_eq_false_iff_ne.2 (by omega)
            have P2 := Lib.hid (St22.map H.out HS.out (by omega) ⟨i, st, pc⟩ HOM.out HC.out _ _ rfl rfl)
            obtain ⟨y, hy⟩ : ∃ y, y = mapY s ⟨i, st, pc⟩ := ⟨_, rfl⟩
            obtain ⟨ez, hez⟩ : ∃ ez, ez = mapE s ⟨i, st, pc⟩ := ⟨_, rfl⟩
            rw [← hy, ← hez] at P2
            clear hy hez hok hC f0 HS
            go_wp2_with (go_at_call 8; ((with_reducible refine (Hid.out P2).mono ?_); rintro e w3 ⟨rfl, HK3⟩; clear P2))
            go_roundw
            case rel => exact ⟨k + 1, _, by omega, by omega, by go_num, HK3⟩
            case measure => (simp [intOf]; try omega)
    · by_cases hl1 : k < n0
      · have hki : (k : Int) < (n0 : Int) := by omega
        have hk3i : ¬ (k : Int) < 30 := by omega
        clear HR0
        obtain ⟨hv, hhv⟩ : ∃ hv, highW s = hv := ⟨_, rfl⟩
        have PH := Lib.hid (St22.high H.out HS.out (by omega) hv hhv)
        have HHV := Lib.hid hhv
        have HKS := Lib.hid HS.out.2
        clear hhv HS
        go_upto_region 13 with (go_at_call 12; ((with_reducible refine (Hid.out PH).mono ?_); rintro e w2 ⟨rfl, HK2⟩; clear PH))
        have kx2 := HKX.out.below HK2.out.1.below HKX.out.lt
        have x0 : w2.cell? ⟨w.heap.size, 0, none⟩ = some (.int .i64 xi) := (kx2.cell 0).trans rfl
        have x1 : w2.cell? ⟨w.heap.size, 1, none⟩ = some (.int .u32 xs) := (kx2.cell 1).trans rfl
        have x2 : w2.cell? ⟨w.heap.size, 2, none⟩ = some (.int .u16 xp) := (kx2.cell 2).trans rfl
        have HE2 := Lib.hid (HEX.out _ _ _ HK2.out)
        clear kx2
        by_cases g1 : xi < 0
        · clear HK2
          go_wp2
          go_ret
          exact ⟨rfl, HE2.out⟩
        · by_cases g2 : 46116860184273879 < xi
          · clear HK2
            go_wp2
            go_ret
            exact ⟨rfl, HE2.out⟩
          · have hok : OkM ⟨xi, xs, xp⟩ := ⟨⟨hx0.1, by simp only; omega⟩, hx1, hx2⟩
            have f0 : folE ⟨xi, xs, xp⟩ = 0 := by unfold folE; rw [if_neg g1]
            have P1 := Lib.hid (St22.follow H.out HK2.out (by omega) ⟨xi, xs, xp⟩ hok 0 f0)
            have HAB : Hid (hv < (folW s ⟨xi, xs, xp⟩).he.i) := Lib.hid (by rw [← HHV.out]; exact above_start HKS.out.1 (by simp only; omega))
            have hk30 : k ≤ 30 := hk3
            clear hok f0 HK2
            go_upto_region 15 with (go_at_call 10; ((with_reducible refine (Hid.out P1).mono ?_); rintro e w3 ⟨rfl, HK3⟩; clear P1))
            go_wp2
            go_loopw [10, 11, 12] (fun vi _ _ wr => ∃ (j : Nat) (s : Wtr), j ≤ n2 ∧ j ≤ 30 ∧ vi = .int .i64 j ∧ Hid (St22 T wa ⟨p, 0, none⟩ (k + j) s wr ∧ hv < s.he.i)) (fun i _ _ _ => n2 - (intOf i).toNat)
            case atStart => exact ⟨0, _, by omega, by omega, rfl, Lib.hid ⟨HK3.out, HAB.out⟩⟩
            case round =>
              clear HK3 HAB x0 x1 x2
              obtain ⟨j, s2, hj, hj3, rfl, HS⟩ := hrel
              have HE := Lib.hid (HEX.out _ _ _ HS.out.1)
              by_cases hl1 : j < n2
              · have hji : (j : Int) < (n2 : Int) := by omega
                by_cases hl2 : j < 30
                · have hj3i : (j : Int) < 30 := by omega
                  obtain ⟨b, off, x, rfl, hx, hcs⟩ := HR2.out j hl1
                  obtain ⟨i, st, pc⟩ := x
                  simp only at hcs
                  obtain ⟨d0, d1, d2⟩ := hcs wr HE.out
                  have HX := Lib.hid hx
                  clear hcs hx
                  by_cases g3 : 46116860184273879 < i
                  · clear HS
                    go_wp2
                    go_ret
                    exact ⟨rfl, HE.out⟩
                  · have hok : OkM ⟨i, st, pc⟩ := ⟨⟨HX.out.1.1, by simp only; omega⟩, HX.out.2⟩
                    obtain ⟨a1, a2⟩ := above_map HS.out.2 ⟨i, st, pc⟩
                    have P2 := Lib.hid (St22.map H.out HS.out.1 (by omega) ⟨i, st, pc⟩ hok (by simp only; omega) _ _ rfl rfl)
                    obtain ⟨y, hy⟩ : ∃ y, y = mapY s2 ⟨i, st, pc⟩ := ⟨_, rfl⟩
                    obtain ⟨ez, hez⟩ : ∃ ez, ez = mapE s2 ⟨i, st, pc⟩ := ⟨_, rfl⟩
                    rw [← hy, ← hez] at P2
                    rw [← hy, ← hez] at a2
                    obtain ⟨yi, ys, yp⟩ := y
                    simp only at P2 a2
                    have HA1 := Lib.hid a1
                    have HON := Lib.hid (fun wx o (h : St22 T wa ⟨p, 0, none⟩ (k + j + 1) (mapW s2 ⟨i, st, pc⟩) wx) => St22.on H.out h o)
                    by_cases he0 : ez = 0
                    · have h4 : ¬ yi ≤ hv := by have := a2 he0; omega
                      clear hy hez a1 a2 hok HS
                      subst he0
                      go_wp2_with (go_at_call 8; ((with_reducible refine (Hid.out P2).mono ?_); rintro e w4 ⟨rfl, HK4⟩; clear P2))
                      go_roundw
                      case rel => exact ⟨j + 1, _, by omega, by omega, by go_num, Lib.hid ⟨HON.out _ _ HK4.out, HA1.out⟩⟩
                      case measure => (simp [intOf]; try omega)
                    · have h4 : (ez == 0) = false := beq_eq_false_iff_ne.2 he0
                      clear hy hez a1 a2 hok HS
                      go_wp2_with (go_at_call 8; ((with_reducible refine (Hid.out P2).mono ?_); rintro e w4 ⟨rfl, HK4⟩; clear P2))
                      go_roundw
                      case rel => exact ⟨j + 1, _, by omega, by omega, by go_num, Lib.hid ⟨HON.out _ _ HK4.out, HA1.out⟩⟩
                      case measure => (simp [intOf]; try omega)
                · obtain rfl : j = 30 := by omega
                  clear HS
                  go_wp2
                  go_ret
                  exact ⟨rfl, HE.out⟩
              · obtain rfl : j = n2 := by omega
                have hji : ¬ (j : Int) < (j : Int) := by omega
                clear HS
                go_wp2
                go_ret
                exact ⟨rfl, HE.out⟩
      · have hki : ¬ (k : Int) < (n0 : Int) := by omega
        clear HR0
        obtain ⟨hv, hhv⟩ : ∃ hv, highW s = hv := ⟨_, rfl⟩
        have PH := Lib.hid (St22.high H.out HS.out (by omega) hv hhv)
        have HHV := Lib.hid hhv
        have HKS := Lib.hid HS.out.2
        clear hhv HS
        go_upto_region 13 with (go_at_call 12; ((with_reducible refine (Hid.out PH).mono ?_); rintro e w2 ⟨rfl, HK2⟩; clear PH))
        have kx2 := HKX.out.below HK2.out.1.below HKX.out.lt
        have x0 : w2.cell? ⟨w.heap.size, 0, none⟩ = some (.int .i64 xi) := (kx2.cell 0).trans rfl
        have x1 : w2.cell? ⟨w.heap.size, 1, none⟩ = some (.int .u32 xs) := (kx2.cell 1).trans rfl
        have x2 : w2.cell? ⟨w.heap.size, 2, none⟩ = some (.int .u16 xp) := (kx2.cell 2).trans rfl
        have HE2 := Lib.hid (HEX.out _ _ _ HK2.out)
        clear kx2
        by_cases g1 : xi < 0
        · clear HK2
          go_wp2
          go_ret
          exact ⟨rfl, HE2.out⟩
        · by_cases g2 : 46116860184273879 < xi
          · clear HK2
            go_wp2
            go_ret
            exact ⟨rfl, HE2.out⟩
          · have hok : OkM ⟨xi, xs, xp⟩ := ⟨⟨hx0.1, by simp only; omega⟩, hx1, hx2⟩
            have f0 : folE ⟨xi, xs, xp⟩ = 0 := by unfold folE; rw [if_neg g1]
            have P1 := Lib.hid (St22.follow H.out HK2.out (by omega) ⟨xi, xs, xp⟩ hok 0 f0)
            have HAB : Hid (hv < (folW s ⟨xi, xs, xp⟩).he.i) := Lib.hid (by rw [← HHV.out]; exact above_start HKS.out.1 (by simp only; omega))
            have hk30 : k ≤ 30 := hk3
            clear hok f0 HK2
            go_upto_region 15 with (go_at_call 10; ((with_reducible refine (Hid.out P1).mono ?_); rintro e w3 ⟨rfl, HK3⟩; clear P1))
            go_wp2
            go_loopw [10, 11, 12] (fun vi _ _ wr => ∃ (j : Nat) (s : Wtr), j ≤ n2 ∧ j ≤ 30 ∧ vi = .int .i64 j ∧ Hid (St22 T wa ⟨p, 0, none⟩ (k + j) s wr ∧ hv < s.he.i)) (fun i _ _ _ => n2 - (intOf i).toNat)
            case atStart => exact ⟨0, _, by omega, by omega, rfl, Lib.hid ⟨HK3.out, HAB.out⟩⟩
            case round =>
              clear HK3 HAB x0 x1 x2
              obtain ⟨j, s2, hj, hj3, rfl, HS⟩ := hrel
              have HE := Lib.hid (HEX.out _ _ _ HS.out.1)
              by_cases hl1 : j < n2
              · have hji : (j : Int) < (n2 : Int) := by omega
                by_cases hl2 : j < 30
                · have hj3i : (j : Int) < 30 := by omega
                  obtain ⟨b, off, x, rfl, hx, hcs⟩ := HR2.out j hl1
                  obtain ⟨i, st, pc⟩ := x
                  simp only at hcs
                  obtain ⟨d0, d1, d2⟩ := hcs wr HE.out
                  have HX := Lib.hid hx
                  clear hcs hx
                  by_cases g3 : 46116860184273879 < i
                  · clear HS
                    go_wp2
                    go_ret
                    exact ⟨rfl, HE.out⟩
                  · have hok : OkM ⟨i, st, pc⟩ := ⟨⟨HX.out.1.1, by simp only; omega⟩, HX.out.2⟩
                    obtain ⟨a1, a2⟩ := above_map HS.out.2 ⟨i, st, pc⟩
                    have P2 := Lib.hid (St22.map H.out HS.out.1 (by omega) ⟨i, st, pc⟩ hok (by simp only; omega) _ _ rfl rfl)
                    obtain ⟨y, hy⟩ : ∃ y, y = mapY s2 ⟨i, st, pc⟩ := ⟨_, rfl⟩
                    obtain ⟨ez, hez⟩ : ∃ ez, ez = mapE s2 ⟨i, st, pc⟩ := ⟨_, rfl⟩
                    rw [← hy, ← hez] at P2
                    rw [← hy, ← hez] at a2
                    obtain ⟨yi, ys, yp⟩ := y
                    simp only at P2 a2
                    have HA1 := Lib.hid a1
                    have HON := Lib.hid (fun wx o (h : St22 T wa ⟨p, 0, none⟩ (k + j + 1) (mapW s2 ⟨i, st, pc⟩) wx) => St22.on H.out h o)
                    by_cases he0 : ez = 0
                    · have h4 : ¬ yi ≤ hv := by have := a2 he0; omega
                      clear hy hez a1 a2 hok HS
                      subst he0
                      go_wp2_with (go_at_call 8; ((with_reducible refine (Hid.out P2).mono ?_); rintro e w4 ⟨rfl, HK4⟩; clear P2))
                      go_roundw
                      case rel => exact ⟨j + 1, _, by omega, by omega, by go_num, Lib.hid ⟨HON.out _ _ HK4.out, HA1.out⟩⟩
                      case measure => (simp [intOf]; try omega)
                    · have h4 : (ez == 0) = false := beq_eq_false_iff_ne.2 he0
                      clear hy hez a1 a2 hok HS
                      go_wp2_with (go_at_call 8; ((with_reducible refine (Hid.out P2).mono ?_); rintro e w4 ⟨rfl, HK4⟩; clear P2))
                      go_roundw
                      case rel => exact ⟨j + 1, _, by omega, by omega, by go_num, Lib.hid ⟨HON.out _ _ HK4.out, HA1.out⟩⟩
                      case measure => (simp [intOf]; try omega)
                · obtain rfl : j = 30 := by omega
                  clear HS
                  go_wp2
                  go_ret
                  exact ⟨rfl, HE.out⟩
              · obtain rfl : j = n2 := by omega
                have hji : ¬ (j : Int) < (j : Int) := by omega
                clear HS
                go_wp2
                go_ret
                exact ⟨rfl, HE.out⟩
end Go.Proofs.Ytjlfokfdieafeaa
