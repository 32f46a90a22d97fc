/- RewriteOrder's walk: of one source places have the order, and the gaps, of the indices there. -/
import Derived.Test.YtjlfokfdieafeaaRewL1
namespace Go.Proofs.Ytjlfokfdieafeaa
open Go.RowKit
set_option linter.unusedVariables false

theorem pc_gap {bp cp ap : Int} (ha : 0 ≤ ap ∧ ap < 65536) (hb : 0 ≤ bp ∧ bp < 65536) (hc : 0 ≤ cp ∧ cp < 65536) : (((0 + cp - ap) % 32768 - (0 + bp - ap) % 32768) % 65536) % 32768 = ((cp - bp) % 65536) % 32768 := by omega
theorem st_gap {bs cs as_ : Int} : ((0 + (cs - as_)) % 4294967296 - (0 + (bs - as_)) % 4294967296) % 4294967296 = (cs - bs) % 4294967296 := by omega
theorem boxes_below22 (w : World) (o1 o2 o3 : Obj) : Below w.heap.size w (((w.alloc o1).alloc o2).alloc o3) := (((Below.refl _ _).alloc (Nat.le_refl _) _).alloc (by simp) _).alloc (by simp; omega) _
set_option maxRecDepth 100000 in
set_option maxHeartbeats 2000000 in
theorem rewriteOrder_walk {T : World → Value → Wtr → (Nat → Prop) → Prop} (hT : Tells22 T) (ai as_ ap bi bs bp ci cs cp : Int) (w : World) (ha : -9223372036854775808 ≤ ai ∧ ai ≤ 9223372036854775807) (ha1 : 0 ≤ as_ ∧ as_ < 4294967296) (ha2 : 0 ≤ ap ∧ ap < 65536)
    (hb : -9223372036854775808 ≤ bi ∧ bi ≤ 9223372036854775807) (hb1 : 0 ≤ bs ∧ bs < 4294967296) (hb2 : 0 ≤ bp ∧ bp < 65536) (hc : -9223372036854775808 ≤ ci ∧ ci ≤ 9223372036854775807) (hc1 : 0 ≤ cs ∧ cs < 4294967296) (hc2 : 0 ≤ cp ∧ cp < 65536) :
    Calls Try.prog 4 #[.agg #[.int .i64 ai, .int .u32 as_, .int .u16 ap], .agg #[.int .i64 bi, .int .u32 bs, .int .u16 bp], .agg #[.int .i64 ci, .int .u32 cs, .int .u16 cp]] w fun e w' => e = .returned (.bool true) ∧ Below w.heap.size w w' := by
  have H := Lib.hid hT
  obtain ⟨zc, hz1, hz2⟩ := hT.zero
  have HZ2 := Lib.hid hz2
  have HAL := Lib.hid (fun wx => alive_any22 hT wx)
  have HBX := Lib.hid (boxes_below22 w)
  clear hT hz2
  by_cases hok : 0 ≤ ai ∧ ai ≤ bi ∧ ai ≤ ci ∧ bi ≤ 4611686018427387904 ∧ ci ≤ 4611686018427387904
  · obtain ⟨k1, k2, k3, k4, k5⟩ := hok
    have n1 : ¬ ai < 0 := by omega
    have n2 : ¬ bi < ai := by omega
    have n3 : ¬ ci < ai := by omega
    have n4 : ¬ 4611686018427387904 < bi := by omega
    have n5 : ¬ 4611686018427387904 < ci := by omega
    have hxa : OkM ⟨ai, as_, ap⟩ := okM_of (by simp only; omega)
    have hxb : OkM ⟨bi, bs, bp⟩ := okM_of (by simp only; omega)
    have hxc : OkM ⟨ci, cs, cp⟩ := okM_of (by simp only; omega)
    obtain ⟨s1, hs1⟩ : ∃ s1, s1 = folW wz ⟨ai, as_, ap⟩ := ⟨_, rfl⟩
    have e1 : s1 = ⟨0, true, ⟨ai, as_, ap⟩, ⟨0, 0, 0⟩, []⟩ := by rw [hs1]; unfold folW; rw [if_neg n1]; rfl
    have ok1 : OkW s1 0 := by rw [hs1]; exact folW_ok wz_ok hxa
    obtain ⟨s2, hs2⟩ : ∃ s2, s2 = mapW s1 ⟨bi, bs, bp⟩ := ⟨_, rfl⟩
    have ok2 : OkW s2 (0 + bi + 1) := by rw [hs2]; exact mapW_ok ok1 (by simp only; omega) (by omega)
    have m1 : mapE s1 ⟨bi, bs, bp⟩ = 0 := by rw [e1]; unfold mapE; simp only; rw [if_neg (by simp; omega), if_neg (by omega)]
    have q1 : mapY s1 ⟨bi, bs, bp⟩ = ⟨0 + (bi - ai), (0 + (bs - as_)) % 4294967296, (0 + bp - ap) % 32768⟩ := by unfold mapY; rw [if_pos m1, e1]; rfl
    have e2 : s2 = ⟨0, true, ⟨ai, as_, ap⟩, ⟨0, 0, 0⟩, [plcW s1 ⟨bi, bs, bp⟩]⟩ := by rw [hs2]; unfold mapW; rw [if_pos m1, e1]; rfl
    have m2 : mapE s2 ⟨ci, cs, cp⟩ = 0 := by rw [e2]; unfold mapE; simp only; rw [if_neg (by simp; omega), if_neg (by omega)]
    have q2 : mapY s2 ⟨ci, cs, cp⟩ = ⟨0 + (ci - ai), (0 + (cs - as_)) % 4294967296, (0 + cp - ap) % 32768⟩ := by unfold mapY; rw [if_pos m2, e2]; rfl
    have l1 : s1.O.length ≤ 1000 := by rw [e1]; simp
    have l2 : s2.O.length ≤ 1000 := by rw [e2]; simp
    have HSM : Hid (s1.he.i + ((⟨bi, bs, bp⟩ : Mpd).i - s1.th.i) ≤ 9223372036854775807 ∧ s2.he.i + ((⟨ci, cs, cp⟩ : Mpd).i - s2.th.i) ≤ 9223372036854775807) := Lib.hid (by rw [e2, e1]; simp only; omega)
    have HQ := Lib.hid (And.intro hs1 (And.intro hs2 (And.intro m1 (And.intro q1 (And.intro m2 q2)))))
    have HO := Lib.hid (And.intro ok1 (And.intro ok2 (And.intro hxa (And.intro hxb (And.intro hxc (And.intro l1 l2))))))
    have f0 : folE ⟨ai, as_, ap⟩ = 0 := by unfold folE; rw [if_neg n1]
    have HF0 := Lib.hid f0
    obtain ⟨xi, hxi⟩ : ∃ xi, xi = 0 + (bi - ai) := ⟨_, rfl⟩
    obtain ⟨xs, hxs⟩ : ∃ xs, xs = (0 + (bs - as_)) % 4294967296 := ⟨_, rfl⟩
    obtain ⟨xp, hxp⟩ : ∃ xp, xp = (0 + bp - ap) % 32768 := ⟨_, rfl⟩
    obtain ⟨yi, hyi⟩ : ∃ yi, yi = 0 + (ci - ai) := ⟨_, rfl⟩
    obtain ⟨ys, hys⟩ : ∃ ys, ys = (0 + (cs - as_)) % 4294967296 := ⟨_, rfl⟩
    obtain ⟨yp, hyp⟩ : ∃ yp, yp = (0 + cp - ap) % 32768 := ⟨_, rfl⟩
    rw [← hxi, ← hxs, ← hxp, ← hyi, ← hys, ← hyp] at HQ
    obtain ⟨D, hD⟩ : ∃ D, D = ci - bi := ⟨_, rfl⟩
    have w1 : IntKind.i64.wrap (yi - xi) = D := by rw [IntKind.wrap_i64]; omega
    have w2 : IntKind.i64.wrap (ci - bi) = D := by rw [IntKind.wrap_i64]; omega
    obtain ⟨E, hE⟩ : ∃ E, E = (cs - bs) % 4294967296 := ⟨_, rfl⟩
    have w3 : IntKind.u32.wrap (ys - xs) = E := by rw [IntKind.wrap_u32, hys, hxs, hE]; exact st_gap
    have w4 : IntKind.u32.wrap (cs - bs) = E := by rw [IntKind.wrap_u32, hE]
    obtain ⟨p1, hp1⟩ : ∃ p1, p1 = (yp - xp) % 65536 := ⟨_, rfl⟩
    obtain ⟨p2, hp2⟩ : ∃ p2, p2 = (cp - bp) % 65536 := ⟨_, rfl⟩
    have w5 : IntKind.u16.wrap (yp - xp) = p1 := by rw [IntKind.wrap_u16, hp1]
    have w6 : IntKind.u16.wrap (cp - bp) = p2 := by rw [IntKind.wrap_u16, hp2]
    obtain ⟨G, hG⟩ : ∃ G, G = p2 % 32768 := ⟨_, rfl⟩
    have g1 : p1 % 32768 = G := by rw [hG, hp1, hp2, hyp, hxp]; exact pc_gap ha2 hb2 hc2
    have t1 : p1.tmod 32768 = G := by rw [Int.tmod_eq_emod_of_nonneg (by omega)]; exact g1
    have t2 : p2.tmod 32768 = G := by rw [Int.tmod_eq_emod_of_nonneg (by omega)]; exact hG.symm
    have hGb : 0 ≤ G ∧ G < 32768 := by omega
    have u1 : IntKind.u16.wrap G = G := by rw [IntKind.wrap_u16]; omega
    have HK := Lib.hid (And.intro k1 (And.intro k4 k5))
    clear hs1 e1 ok1 hs2 ok2 m1 q1 e2 m2 q2 l1 l2 f0 hxa hxb hxc hxi hxs hxp hyi hys hyp hD hE hp1 hp2 hG g1
    go_enter Try.func4, Try.ntmps4
    go_wp2_with (first
      | (go_at_call 6; ((with_reducible refine (Hid.out HAL _).mono ?_); rintro e wa ⟨rfl, hba⟩; have ka : BlkV wa w.heap.size 35 [.int .i64 ai, .int .u32 as_, .int .u16 ap] := BlkV.below (((BlkV.new_at w _ 35 [.int .i64 ai, .int .u32 as_, .int .u16 ap] _ rfl rfl).alloc _).alloc _) hba (by simp; omega); have kb : BlkV wa (w.heap.size + 1) 35 [.int .i64 bi, .int .u32 bs, .int .u16 bp] := BlkV.below ((BlkV.new_at _ _ 35 [.int .i64 bi, .int .u32 bs, .int .u16 bp] _ (by simp) rfl).alloc _) hba (by simp); have kc : BlkV wa (w.heap.size + 1 + 1) 35 [.int .i64 ci, .int .u32 cs, .int .u16 cp] := BlkV.below (BlkV.new_at _ _ 35 [.int .i64 ci, .int .u32 cs, .int .u16 cp] _ (by simp) rfl) hba (by simp); have HKA := Lib.hid ka; have HKB := Lib.hid kb; have HKC := Lib.hid kc; have ca : wa.cell? ⟨w.heap.size, 0, none⟩ = some (.int .i64 ai) := (ka.cell 0).trans rfl; have cb : wa.cell? ⟨w.heap.size + 1, 0, none⟩ = some (.int .i64 bi) := (kb.cell 0).trans rfl; have cc : wa.cell? ⟨w.heap.size + 1 + 1, 0, none⟩ = some (.int .i64 ci) := (kc.cell 0).trans rfl; have za : w.heap.size < wa.heap.size ∧ w.heap.size + 1 < wa.heap.size ∧ w.heap.size + 1 + 1 < wa.heap.size := ⟨ka.lt, kb.lt, kc.lt⟩; have ca1 : wa.cell? ⟨w.heap.size, 1, none⟩ = some (.int .u32 as_) := (ka.cell 1).trans rfl; have ca2 : wa.cell? ⟨w.heap.size, 2, none⟩ = some (.int .u16 ap) := (ka.cell 2).trans rfl; have HBA := Lib.hid ((HBX.out _ _ _).trans (hba.mono (HBX.out _ _ _).size)); have HZ := Lib.hid (Rew.zero (T := T) (w0 := wa) (wx := wa) (Below.refl _ _) HZ2.out); have P1 := Lib.hid (Rew.follow H.out HZ.out wz_ok (by decide) ⟨ai, as_, ap⟩ HO.out.2.2.1 (by decide) 0 HF0.out); rw [← HQ.out.1] at P1; clear hba ka kb kc))
      | (go_at_call 10; ((with_reducible refine (Hid.out P1).mono ?_); rintro e w2 ⟨rfl, HK2⟩; have kb2 := HKB.out.below HK2.out.1.below HKB.out.lt; have b20 : w2.cell? ⟨w.heap.size + 1, 0, none⟩ = some (.int .i64 bi) := (kb2.cell 0).trans rfl; have b21 : w2.cell? ⟨w.heap.size + 1, 1, none⟩ = some (.int .u32 bs) := (kb2.cell 1).trans rfl; have b22 : w2.cell? ⟨w.heap.size + 1, 2, none⟩ = some (.int .u16 bp) := (kb2.cell 2).trans rfl; clear kb2; have P2 := Lib.hid (Rew.map H.out HK2.out.1 HO.out.1 (by decide) ⟨bi, bs, bp⟩ HO.out.2.2.2.1 (fun _ => HSM.out.1) HO.out.2.2.2.2.2.1 _ _ HQ.out.2.2.2.1 HQ.out.2.2.1); rw [← HQ.out.2.1] at P2; clear P1))
      | (go_at_call 8; ((with_reducible refine (Hid.out P2).mono ?_); rintro e w3 ⟨rfl, HK3⟩; have kc3 := HKC.out.below HK3.out.1.below HKC.out.lt; have c30 : w3.cell? ⟨w.heap.size + 1 + 1, 0, none⟩ = some (.int .i64 ci) := (kc3.cell 0).trans rfl; have c31 : w3.cell? ⟨w.heap.size + 1 + 1, 1, none⟩ = some (.int .u32 cs) := (kc3.cell 1).trans rfl; have c32 : w3.cell? ⟨w.heap.size + 1 + 1, 2, none⟩ = some (.int .u16 cp) := (kc3.cell 2).trans rfl; have z3 := kc3.lt; clear kc3; have HK3a := Lib.hid (fun o => Rew.keep H.out HK3.out.1 o); have P3 := Lib.hid (fun o => Rew.map H.out (HK3a.out o) HO.out.2.1 (by have := HK.out; omega) ⟨ci, cs, cp⟩ HO.out.2.2.2.2.1 (fun _ => HSM.out.2) HO.out.2.2.2.2.2.2 _ _ HQ.out.2.2.2.2.2 HQ.out.2.2.2.2.1); clear P2))
      | (go_at_call 8; ((with_reducible refine (Hid.out P3 _).mono ?_); rintro e w4 ⟨rfl, HK4⟩; have kx : BlkV w4 w3.heap.size 35 [.int .i64 xi, .int .u32 xs, .int .u16 xp] := (HK4.out.2 w3.heap.size (.inr rfl)).trans (BlkV.new w3 35 [.int .i64 xi, .int .u32 xs, .int .u16 xp]); have x0 : w4.cell? ⟨w3.heap.size, 0, none⟩ = some (.int .i64 xi) := (kx.cell 0).trans rfl; have x1 : w4.cell? ⟨w3.heap.size, 1, none⟩ = some (.int .u32 xs) := (kx.cell 1).trans rfl; have x2 : w4.cell? ⟨w3.heap.size, 2, none⟩ = some (.int .u16 xp) := (kx.cell 2).trans rfl; have kb4 := HKB.out.below HK4.out.1.below HKB.out.lt; have kc4 := HKC.out.below HK4.out.1.below HKC.out.lt; have b0 : w4.cell? ⟨w.heap.size + 1, 0, none⟩ = some (.int .i64 bi) := (kb4.cell 0).trans rfl; have b1 : w4.cell? ⟨w.heap.size + 1, 1, none⟩ = some (.int .u32 bs) := (kb4.cell 1).trans rfl; have b2 : w4.cell? ⟨w.heap.size + 1, 2, none⟩ = some (.int .u16 bp) := (kb4.cell 2).trans rfl; have d0 : w4.cell? ⟨w.heap.size + 1 + 1, 0, none⟩ = some (.int .i64 ci) := (kc4.cell 0).trans rfl; have d1 : w4.cell? ⟨w.heap.size + 1 + 1, 1, none⟩ = some (.int .u32 cs) := (kc4.cell 1).trans rfl; have d2 : w4.cell? ⟨w.heap.size + 1 + 1, 2, none⟩ = some (.int .u16 cp) := (kc4.cell 2).trans rfl; have z4 : w3.heap.size < w4.heap.size ∧ w.heap.size + 1 < w4.heap.size ∧ w.heap.size + 1 + 1 < w4.heap.size := ⟨kx.lt, kb4.lt, kc4.lt⟩; have HB4 := Lib.hid HK4.out.1.below; clear P3 kx kb4 kc4)))
    go_ret
    exact ⟨rfl, HBA.out.trans ((HB4.out.alloc HB4.out.size _).mono HBA.out.size)⟩
  · by_cases n1 : ai < 0
    · go_enter Try.func4, Try.ntmps4
      go_wp2_with (go_at_call 6; ((with_reducible refine (Hid.out HAL _).mono ?_); rintro e wa ⟨rfl, hba⟩; have ka : BlkV wa w.heap.size 35 [.int .i64 ai, .int .u32 as_, .int .u16 ap] := BlkV.below (((BlkV.new_at w _ 35 [.int .i64 ai, .int .u32 as_, .int .u16 ap] _ rfl rfl).alloc _).alloc _) hba (by simp; omega); have kb : BlkV wa (w.heap.size + 1) 35 [.int .i64 bi, .int .u32 bs, .int .u16 bp] := BlkV.below ((BlkV.new_at _ _ 35 [.int .i64 bi, .int .u32 bs, .int .u16 bp] _ (by simp) rfl).alloc _) hba (by simp); have kc : BlkV wa (w.heap.size + 1 + 1) 35 [.int .i64 ci, .int .u32 cs, .int .u16 cp] := BlkV.below (BlkV.new_at _ _ 35 [.int .i64 ci, .int .u32 cs, .int .u16 cp] _ (by simp) rfl) hba (by simp); have ca : wa.cell? ⟨w.heap.size, 0, none⟩ = some (.int .i64 ai) := (ka.cell 0).trans rfl; have cb : wa.cell? ⟨w.heap.size + 1, 0, none⟩ = some (.int .i64 bi) := (kb.cell 0).trans rfl; have cc : wa.cell? ⟨w.heap.size + 1 + 1, 0, none⟩ = some (.int .i64 ci) := (kc.cell 0).trans rfl; have HBA := Lib.hid ((HBX.out _ _ _).trans (hba.mono (HBX.out _ _ _).size)); clear hba ka kb kc))
      go_ret
      exact ⟨rfl, HBA.out⟩
    · by_cases n2 : bi < ai
      · go_enter Try.func4, Try.ntmps4
        go_wp2_with (go_at_call 6; ((with_reducible refine (Hid.out HAL _).mono ?_); rintro e wa ⟨rfl, hba⟩; have ka : BlkV wa w.heap.size 35 [.int .i64 ai, .int .u32 as_, .int .u16 ap] := BlkV.below (((BlkV.new_at w _ 35 [.int .i64 ai, .int .u32 as_, .int .u16 ap] _ rfl rfl).alloc _).alloc _) hba (by simp; omega); have kb : BlkV wa (w.heap.size + 1) 35 [.int .i64 bi, .int .u32 bs, .int .u16 bp] := BlkV.below ((BlkV.new_at _ _ 35 [.int .i64 bi, .int .u32 bs, .int .u16 bp] _ (by simp) rfl).alloc _) hba (by simp); have kc : BlkV wa (w.heap.size + 1 + 1) 35 [.int .i64 ci, .int .u32 cs, .int .u16 cp] := BlkV.below (BlkV.new_at _ _ 35 [.int .i64 ci, .int .u32 cs, .int .u16 cp] _ (by simp) rfl) hba (by simp); have ca : wa.cell? ⟨w.heap.size, 0, none⟩ = some (.int .i64 ai) := (ka.cell 0).trans rfl; have cb : wa.cell? ⟨w.heap.size + 1, 0, none⟩ = some (.int .i64 bi) := (kb.cell 0).trans rfl; have cc : wa.cell? ⟨w.heap.size + 1 + 1, 0, none⟩ = some (.int .i64 ci) := (kc.cell 0).trans rfl; have HBA := Lib.hid ((HBX.out _ _ _).trans (hba.mono (HBX.out _ _ _).size)); clear hba ka kb kc))
        go_ret
        exact ⟨rfl, HBA.out⟩
      · by_cases n3 : ci < ai
        · go_enter Try.func4, Try.ntmps4
          go_wp2_with (go_at_call 6; ((with_reducible refine (Hid.out HAL _).mono ?_); rintro e wa ⟨rfl, hba⟩; have ka : BlkV wa w.heap.size 35 [.int .i64 ai, .int .u32 as_, .int .u16 ap] := BlkV.below (((BlkV.new_at w _ 35 [.int .i64 ai, .int .u32 as_, .int .u16 ap] _ rfl rfl).alloc _).alloc _) hba (by simp; omega); have kb : BlkV wa (w.heap.size + 1) 35 [.int .i64 bi, .int .u32 bs, .int .u16 bp] := BlkV.below ((BlkV.new_at _ _ 35 [.int .i64 bi, .int .u32 bs, .int .u16 bp] _ (by simp) rfl).alloc _) hba (by simp); have kc : BlkV wa (w.heap.size + 1 + 1) 35 [.int .i64 ci, .int .u32 cs, .int .u16 cp] := BlkV.below (BlkV.new_at _ _ 35 [.int .i64 ci, .int .u32 cs, .int .u16 cp] _ (by simp) rfl) hba (by simp); have ca : wa.cell? ⟨w.heap.size, 0, none⟩ = some (.int .i64 ai) := (ka.cell 0).trans rfl; have cb : wa.cell? ⟨w.heap.size + 1, 0, none⟩ = some (.int .i64 bi) := (kb.cell 0).trans rfl; have cc : wa.cell? ⟨w.heap.size + 1 + 1, 0, none⟩ = some (.int .i64 ci) := (kc.cell 0).trans rfl; have HBA := Lib.hid ((HBX.out _ _ _).trans (hba.mono (HBX.out _ _ _).size)); clear hba ka kb kc))
          go_ret
          exact ⟨rfl, HBA.out⟩
        · by_cases n4 : 4611686018427387904 < bi
          · go_enter Try.func4, Try.ntmps4
            go_wp2_with (go_at_call 6; ((with_reducible refine (Hid.out HAL _).mono ?_); rintro e wa ⟨rfl, hba⟩; have ka : BlkV wa w.heap.size 35 [.int .i64 ai, .int .u32 as_, .int .u16 ap] := BlkV.below (((BlkV.new_at w _ 35 [.int .i64 ai, .int .u32 as_, .int .u16 ap] _ rfl rfl).alloc _).alloc _) hba (by simp; omega); have kb : BlkV wa (w.heap.size + 1) 35 [.int .i64 bi, .int .u32 bs, .int .u16 bp] := BlkV.below ((BlkV.new_at _ _ 35 [.int .i64 bi, .int .u32 bs, .int .u16 bp] _ (by simp) rfl).alloc _) hba (by simp); have kc : BlkV wa (w.heap.size + 1 + 1) 35 [.int .i64 ci, .int .u32 cs, .int .u16 cp] := BlkV.below (BlkV.new_at _ _ 35 [.int .i64 ci, .int .u32 cs, .int .u16 cp] _ (by simp) rfl) hba (by simp); have ca : wa.cell? ⟨w.heap.size, 0, none⟩ = some (.int .i64 ai) := (ka.cell 0).trans rfl; have cb : wa.cell? ⟨w.heap.size + 1, 0, none⟩ = some (.int .i64 bi) := (kb.cell 0).trans rfl; have cc : wa.cell? ⟨w.heap.size + 1 + 1, 0, none⟩ = some (.int .i64 ci) := (kc.cell 0).trans rfl; have HBA := Lib.hid ((HBX.out _ _ _).trans (hba.mono (HBX.out _ _ _).size)); clear hba ka kb kc))
            go_ret
            exact ⟨rfl, HBA.out⟩
          · by_cases n5 : 4611686018427387904 < ci
            · go_enter Try.func4, Try.ntmps4
              go_wp2_with (go_at_call 6; ((with_reducible refine (Hid.out HAL _).mono ?_); rintro e wa ⟨rfl, hba⟩; have ka : BlkV wa w.heap.size 35 [.int .i64 ai, .int .u32 as_, .int .u16 ap] := BlkV.below (((BlkV.new_at w _ 35 [.int .i64 ai, .int .u32 as_, .int .u16 ap] _ rfl rfl).alloc _).alloc _) hba (by simp; omega); have kb : BlkV wa (w.heap.size + 1) 35 [.int .i64 bi, .int .u32 bs, .int .u16 bp] := BlkV.below ((BlkV.new_at _ _ 35 [.int .i64 bi, .int .u32 bs, .int .u16 bp] _ (by simp) rfl).alloc _) hba (by simp); have kc : BlkV wa (w.heap.size + 1 + 1) 35 [.int .i64 ci, .int .u32 cs, .int .u16 cp] := BlkV.below (BlkV.new_at _ _ 35 [.int .i64 ci, .int .u32 cs, .int .u16 cp] _ (by simp) rfl) hba (by simp); have ca : wa.cell? ⟨w.heap.size, 0, none⟩ = some (.int .i64 ai) := (ka.cell 0).trans rfl; have cb : wa.cell? ⟨w.heap.size + 1, 0, none⟩ = some (.int .i64 bi) := (kb.cell 0).trans rfl; have cc : wa.cell? ⟨w.heap.size + 1 + 1, 0, none⟩ = some (.int .i64 ci) := (kc.cell 0).trans rfl; have HBA := Lib.hid ((HBX.out _ _ _).trans (hba.mono (HBX.out _ _ _).size)); clear hba ka kb kc))
              go_ret
              exact ⟨rfl, HBA.out⟩
            · exact absurd ⟨by omega, by omega, by omega, by omega, by omega⟩ hok
end Go.Proofs.Ytjlfokfdieafeaa
