/- Contracts of package aes: a block's columns multiplied. No statement is proved here. -/
import Derived.Test.YtmfceenkndjjoaaAes4
import Derived.BigQuiet
namespace Go.Proofs.Ytmfceenkndjjoaa
open Go.RowKit
set_option linter.unusedVariables false

theorem twice_i (x : UInt8) (xi yi : Int) (hx : xi = (x.toNat : Int)) (hy : yi = ((dbl x).toNat : Int)) (w : World) : Calls Try.prog 34 #[.int .u8 xi] w fun e w' => e = .returned (.int .u8 yi) ∧ w = w' := by
  subst hy
  exact twice_any x xi w hx
theorem u8_ex (x : UInt8) : ∃ i : Int, i = (x.toNat : Int) ∧ 0 ≤ i ∧ i < 256 := ⟨_, rfl, by omega, by have := x.toNat_lt; omega⟩
theorem xr8i {a b : UInt8} {i j k : Int} (hi : i = (a.toNat : Int)) (hj : j = (b.toNat : Int)) (hk : k = ((a ^^^ b).toNat : Int)) : bits BinOp.xor IntKind.u8 i j = k := by
  subst hi; subst hj; subst hk; exact xr8 a b
/-- A column's store. -/
theorem col_step {w : World} {g k : Nat} {s : List UInt8} {f : Nat → UInt8} (hs : s.length = 16) (h : Blk w g 22 (fillAt f s k)) (hk : k < 16) (v : Int) (hv : v = ((f k).toNat : Int)) :
    (∃ u : Int, w.cell? ⟨g, k, none⟩ = some (.int .u8 u)) ∧ w.frozen? ⟨g, k, none⟩ = false ∧ Blk (w.setCell ⟨g, k, none⟩ (.int .u8 v)).drew g 22 (fillAt f s (k + 1)) ∧ Only g w (w.setCell ⟨g, k, none⟩ (.int .u8 v)).drew := by
  subst hv
  have hl := fillAt_len f s k (by omega)
  refine ⟨⟨_, h.cell (j := k) (by omega)⟩, h.frozen k, ?_, (Only.set w g k _).drew⟩
  have := h.set_ k (f k)
  rw [fillAt_step _ _ _ (by omega)] at this
  exact this

set_option maxRecDepth 100000 in
set_option maxHeartbeats 2000000 in
theorem multiply_any (g : Nat) (s : List UInt8) (w : World) (hs : s.length = 16) (hb : Blk w g 22 s) :
    Calls Try.prog 29 #[.pointer (some ⟨g, 0, none⟩)] w fun e w' => e = .returned (.tuple #[]) ∧ Blk w' g 22 (mulC s) ∧ Only g w w' := by
  have HS := Lib.hid hs
  have h0 : Blk w g 22 (fillAt (mulB s) s (4 * 0)) := by rw [fillAt_zero]; exact hb
  clear hs
  go_enter Try.func29, Try.ntmps29
  go_wp2
  go_loopw [9] (fun vi wr => ∃ c : Nat, c ≤ 4 ∧ vi = .int .i64 c ∧ Blk wr g 22 (fillAt (mulB s) s (4 * c)) ∧ Only g w wr) (fun i _ => 4 - (intOf i).toNat)
  case atStart => exact ⟨0, by omega, rfl, h0, Only.refl _ _⟩
  case round =>
    clear h0 hb
    obtain ⟨c, hc4, rfl, h1, ho⟩ := hrel
    by_cases hlt : c < 4
    · have m0 : mulB s (4 * c) = s.getD (4 * c) 0 ^^^ (s.getD (4 * c) 0 ^^^ s.getD (4 * c + 1) 0 ^^^ s.getD (4 * c + 2) 0 ^^^ s.getD (4 * c + 3) 0) ^^^ dbl (s.getD (4 * c) 0 ^^^ s.getD (4 * c + 1) 0) := by
        unfold mulB; rw [show (4 * c) / 4 = c by omega, show (4 * c) % 4 = 0 by omega]
      have m1 : mulB s (4 * c + 1) = s.getD (4 * c + 1) 0 ^^^ (s.getD (4 * c) 0 ^^^ s.getD (4 * c + 1) 0 ^^^ s.getD (4 * c + 2) 0 ^^^ s.getD (4 * c + 3) 0) ^^^ dbl (s.getD (4 * c + 1) 0 ^^^ s.getD (4 * c + 2) 0) := by
        unfold mulB; rw [show (4 * c + 1) / 4 = c by omega, show (4 * c + 1) % 4 = 1 by omega]
      have m2 : mulB s (4 * c + 2) = s.getD (4 * c + 2) 0 ^^^ (s.getD (4 * c) 0 ^^^ s.getD (4 * c + 1) 0 ^^^ s.getD (4 * c + 2) 0 ^^^ s.getD (4 * c + 3) 0) ^^^ dbl (s.getD (4 * c + 2) 0 ^^^ s.getD (4 * c + 3) 0) := by
        unfold mulB; rw [show (4 * c + 2) / 4 = c by omega, show (4 * c + 2) % 4 = 2 by omega]
      have m3 : mulB s (4 * c + 3) = s.getD (4 * c + 3) 0 ^^^ (s.getD (4 * c) 0 ^^^ s.getD (4 * c + 1) 0 ^^^ s.getD (4 * c + 2) 0 ^^^ s.getD (4 * c + 3) 0) ^^^ dbl (s.getD (4 * c + 3) 0 ^^^ s.getD (4 * c) 0) := by
        unfold mulB; rw [show (4 * c + 3) / 4 = c by omega, show (4 * c + 3) % 4 = 3 by omega]; rfl
      have hl := fillAt_len (mulB s) s (4 * c) (by rw [HS.out]; omega)
      have hl16 : (fillAt (mulB s) s (4 * c)).length = 16 := by rw [hl, HS.out]
      have c0 := h1.cell (j := 4 * c) (by omega)
      have c1 := h1.cell (j := 4 * c + 1) (by omega)
      have c2 := h1.cell (j := 4 * c + 2) (by omega)
      have c3 := h1.cell (j := 4 * c + 3) (by omega)
      rw [fillAt_ge _ _ _ _ (by omega)] at c0 c1 c2 c3
      obtain ⟨P, hP⟩ : ∃ P, P = s.getD (4 * c) 0 := ⟨_, rfl⟩
      obtain ⟨Q, hQ⟩ : ∃ P, P = s.getD (4 * c + 1) 0 := ⟨_, rfl⟩
      obtain ⟨R, hR⟩ : ∃ P, P = s.getD (4 * c + 2) 0 := ⟨_, rfl⟩
      obtain ⟨S, hSS⟩ : ∃ P, P = s.getD (4 * c + 3) 0 := ⟨_, rfl⟩
      rw [← hP, ← hQ, ← hR, ← hSS] at m0 m1 m2 m3
      rw [← hP] at c0
      rw [← hQ] at c1
      rw [← hR] at c2
      rw [← hSS] at c3
      clear hP hQ hR hSS hl hl16
      obtain ⟨p, hp, p1, p2⟩ := u8_ex P
      obtain ⟨q, hq, q1, q2⟩ := u8_ex Q
      obtain ⟨r, hr, r1, r2⟩ := u8_ex R
      obtain ⟨u, hu, u1, u2⟩ := u8_ex S
      rw [← hp] at c0
      rw [← hq] at c1
      rw [← hr] at c2
      rw [← hu] at c3
      obtain ⟨pq, hpq, pq1, pq2⟩ := u8_ex (P ^^^ Q)
      obtain ⟨pqr, hpqr, pqr1, pqr2⟩ := u8_ex (P ^^^ Q ^^^ R)
      obtain ⟨al, hal, al1, al2⟩ := u8_ex (P ^^^ Q ^^^ R ^^^ S)
      have b1 := xr8i hp hq hpq
      have b2 := xr8i hpq hr hpqr
      have b3 := xr8i hpqr hu hal
      obtain ⟨d0, hd0, d01, d02⟩ := u8_ex (dbl (P ^^^ Q))
      obtain ⟨pa, hpa, pa1, pa2⟩ := u8_ex (P ^^^ (P ^^^ Q ^^^ R ^^^ S))
      obtain ⟨v0, hv0, v01, v02⟩ := u8_ex (mulB s (4 * c))
      have b4 := xr8i hp hal hpa
      have b5 := xr8i (k := v0) hpa hd0 (by rw [← m0]; exact hv0)
      have t0 := fun wx => twice_i (P ^^^ Q) pq d0 hpq hd0 wx
      obtain ⟨qr, hqr, qr1, qr2⟩ := u8_ex (Q ^^^ R)
      obtain ⟨d1, hd1, d11, d12⟩ := u8_ex (dbl (Q ^^^ R))
      obtain ⟨qa, hqa, qa1, qa2⟩ := u8_ex (Q ^^^ (P ^^^ Q ^^^ R ^^^ S))
      obtain ⟨v1, hv1, v11, v12⟩ := u8_ex (mulB s (4 * c + 1))
      have b6 := xr8i hq hal hqa
      have b7 := xr8i (k := v1) hqa hd1 (by rw [← m1]; exact hv1)
      have b8 := xr8i hq hr hqr
      have t1 := fun wx => twice_i (Q ^^^ R) qr d1 hqr hd1 wx
      obtain ⟨ru, hru, ru1, ru2⟩ := u8_ex (R ^^^ S)
      obtain ⟨d2, hd2, d21, d22⟩ := u8_ex (dbl (R ^^^ S))
      obtain ⟨ra, hra, ra1, ra2⟩ := u8_ex (R ^^^ (P ^^^ Q ^^^ R ^^^ S))
      obtain ⟨v2, hv2, v21, v22⟩ := u8_ex (mulB s (4 * c + 2))
      have b9 := xr8i hr hal hra
      have b10 := xr8i (k := v2) hra hd2 (by rw [← m2]; exact hv2)
      have b11 := xr8i hr hu hru
      have t2 := fun wx => twice_i (R ^^^ S) ru d2 hru hd2 wx
      obtain ⟨up, hup, up1, up2⟩ := u8_ex (S ^^^ P)
      obtain ⟨d3, hd3, d31, d32⟩ := u8_ex (dbl (S ^^^ P))
      obtain ⟨ua, hua, ua1, ua2⟩ := u8_ex (S ^^^ (P ^^^ Q ^^^ R ^^^ S))
      obtain ⟨v3, hv3, v31, v32⟩ := u8_ex (mulB s (4 * c + 3))
      have b12 := xr8i hu hal hua
      have b13 := xr8i (k := v3) hua hd3 (by rw [← m3]; exact hv3)
      have b14 := xr8i hu hp hup
      have t3 := fun wx => twice_i (S ^^^ P) up d3 hup hd3 wx
      have HV0 := Lib.hid hv0
      have HV1 := Lib.hid hv1
      have HV2 := Lib.hid hv2
      have HV3 := Lib.hid hv3
      have T0 := Lib.hid t0
      have T1 := Lib.hid t1
      have T2 := Lib.hid t2
      have T3 := Lib.hid t3
      clear t0 t1 t2 t3 hv0 hv1 hv2 hv3 hp hq hr hu hpq hpqr hal hd0 hpa hqr hd1 hqa hru hd2 hra hup hd3 hua m0 m1 m2 m3
      obtain ⟨I, hI⟩ : ∃ I, I = 4 * c := ⟨_, rfl⟩
      have HI := Lib.hid hI
      have hat : (c : Int) * 4 = (I : Int) := by omega
      have i1 : IntKind.i64.wrap ((I : Int) + 1) = (I : Int) + 1 := IntWalk.i64_in _ (by omega)
      have i2 : IntKind.i64.wrap ((I : Int) + 2) = (I : Int) + 2 := IntWalk.i64_in _ (by omega)
      have i3 : IntKind.i64.wrap ((I : Int) + 3) = (I : Int) + 3 := IntWalk.i64_in _ (by omega)
      have j0 : (I : Int) < 16 := by omega
      have j1 : (I : Int) + 1 < 16 := by omega
      have j2 : (I : Int) + 2 < 16 := by omega
      have j3 : (I : Int) + 3 < 16 := by omega
      have l1 : 0 ≤ (I : Int) + 1 := by omega
      have l2 : 0 ≤ (I : Int) + 2 := by omega
      have l3 : 0 ≤ (I : Int) + 3 := by omega
      have n1 : ((I : Int) + 1).toNat = I + 1 := by omega
      have n2 : ((I : Int) + 2).toNat = I + 2 := by omega
      have n3 : ((I : Int) + 3).toNat = I + 3 := by omega
      rw [← hI] at h1 c0 c1 c2 c3 HV0 HV1 HV2 HV3
      have hI16 : I + 3 < 16 := by omega
      clear hI
      go_wp2
      go_quiet (fail)
      have h2 : Blk (wr.drewN nq) g 22 (fillAt (mulB s) s I) := h1
      have ho2 : Only g w (wr.drewN nq) := ⟨ho.os, ho.tape, ho.output, ho.size, ho.block⟩
      clear h1 ho c0 c1 c2 c3
      generalize wr.drewN nq = w2 at *
      go_wp2
      obtain ⟨⟨x0, k0⟩, f0, g0, o0⟩ := col_step HS.out h2 (by omega) v0 HV0.out
      have ho3 := ho2.trans o0
      clear ho2 o0 h2
      go_still_tail 12, (by kernel_rfl)
      still_call ((T0.out _).mono fun _ _ ⟨h, h2⟩ => ⟨h, h2.symm⟩)
      repeat still_step
      refine wpStill_nil ?_
      change wpList _ _ _ _ _ w2.drew
      go_wp2
      clear k0 f0
      generalize (w2.setCell ⟨g, I, none⟩ (.int .u8 v0)).drew = w3 at *
      have h3 := g0
      clear g0
      obtain ⟨⟨x1, k1⟩, f1, g1, o1⟩ := col_step HS.out h3 (by omega) v1 HV1.out
      have ho4 := ho3.trans o1
      clear ho3 o1 h3
      go_still_tail 13, (by kernel_rfl)
      still_call ((T1.out _).mono fun _ _ ⟨h, h2⟩ => ⟨h, h2.symm⟩)
      repeat still_step
      refine wpStill_nil ?_
      change wpList _ _ _ _ _ w3.drew
      go_wp2
      clear k1 f1
      generalize (w3.setCell ⟨g, I + 1, none⟩ (.int .u8 v1)).drew = w4 at *
      have h4 := g1
      clear g1
      obtain ⟨⟨x2, k2⟩, f2, g2, o2⟩ := col_step HS.out h4 (by omega) v2 HV2.out
      have ho5 := ho4.trans o2
      clear ho4 o2 h4
      go_still_tail 13, (by kernel_rfl)
      still_call ((T2.out _).mono fun _ _ ⟨h, h2⟩ => ⟨h, h2.symm⟩)
      repeat still_step
      refine wpStill_nil ?_
      change wpList _ _ _ _ _ w4.drew
      go_wp2
      clear k2 f2
      generalize (w4.setCell ⟨g, I + 2, none⟩ (.int .u8 v2)).drew = w5 at *
      have h5 := g2
      clear g2
      obtain ⟨⟨x3, k3⟩, f3, g3, o3⟩ := col_step HS.out h5 (by omega) v3 HV3.out
      have ho6 := ho5.trans o3
      clear ho5 o3 h5
      go_still_tail 13, (by kernel_rfl)
      still_call ((T3.out _).mono fun _ _ ⟨h, h2⟩ => ⟨h, h2.symm⟩)
      repeat still_step
      refine wpStill_nil ?_
      change wpList _ _ _ _ _ w5.drew
      go_wp2
      clear k3 f3
      generalize (w5.setCell ⟨g, I + 3, none⟩ (.int .u8 v3)).drew = w6 at *
      have h6 := g3
      clear g3
      go_roundw
      case rel => exact ⟨c + 1, by omega, by go_num, by rw [show 4 * (c + 1) = 4 * c + 4 by omega, ← HI.out]; exact h6, ho6⟩
      case measure => simp [intOf]; omega
    · obtain rfl : c = 4 := by omega
      rw [show 4 * 4 = 16 from rfl, fillAt_all _ _ _ HS.out] at h1
      go_wp2
      go_end0
      exact ⟨rfl, h1, ho⟩
end Go.Proofs.Ytmfceenkndjjoaa
