/- Contracts of package sha: a block laid upon the words. No statement is proved here. -/
import Derived.Test.YtihaiplkkamkoaaDoorSha2
namespace Go.Proofs.YtihaiplkkamkoaaDoor
open Go.RowKit
set_option linter.unusedVariables false

set_option maxRecDepth 100000 in
set_option maxHeartbeats 1000000 in
theorem withBlock_any (s : S5) (b : List UInt8) (w : World) (hs : s.ok) (hl : b.length = 64) :
    Calls Tryd.prog 23 #[.agg (c32 s.l).toArray, .agg (cells b).toArray] w fun e w' => e = .returned (.agg (c32 (blockW s b).l).toArray) ∧ Below w.heap.size w w' := by
  have hz := zero80
  have k1 : ∀ C : Array Value, BlkV (((w.alloc (Obj.cells (c32 s.l).toArray 51)).alloc (Obj.cells (cells b).toArray 35)).alloc (Obj.cells C 51)) (w.heap.size + 1) 35 (cells b) := fun C => (BlkV.new_at _ _ _ _ _ (by simp) rfl).alloc _
  have k0 : ∀ C : Array Value, BlkV (((w.alloc (Obj.cells (c32 s.l).toArray 51)).alloc (Obj.cells (cells b).toArray 35)).alloc (Obj.cells C 51)) w.heap.size 51 (c32 s.l) := fun C => ((BlkV.new _ _ _).alloc _).alloc _
  have k2 : BlkV (((w.alloc (Obj.cells (c32 s.l).toArray 51)).alloc (Obj.cells (cells b).toArray 35)).alloc (Obj.cells #[.int .u32 0, .int .u32 0, .int .u32 0, .int .u32 0, .int .u32 0] 51)) (w.heap.size + 1 + 1) 51 (c32 [0, 0, 0, 0, 0]) := BlkV.new_at _ _ _ _ _ (by simp) rfl
  have hb0 : ∀ C : Array Value, Below w.heap.size w (((w.alloc (Obj.cells (c32 s.l).toArray 51)).alloc (Obj.cells (cells b).toArray 35)).alloc (Obj.cells C 51)) := fun C => (((Below.refl _ _).alloc (Nat.le_refl _) _).alloc (by simp) _).alloc (by simp; omega) _
  have K1 := Lib.hid k1
  have K0 := Lib.hid k0
  have K2 := Lib.hid k2
  have HB0 := Lib.hid hb0
  have HL := Lib.hid hl
  clear k1 k0 k2 hb0 hl
  have hwl := wds_lt b 80
  have hwn := wds_len b 80
  have hsc := fun w => schedule_any b w HL.out
  have hbk : blockW s b = s.plus (rnds (wds b 80) s 80) := rfl
  rw [hbk]
  clear hbk
  obtain ⟨W, hW⟩ : ∃ W, W = wds b 80 := ⟨_, rfl⟩
  rw [← hW] at hwl hwn hsc ⊢
  clear hW
  have HC := Lib.hid hsc
  have HN := Lib.hid hwn
  have HWL := Lib.hid hwl
  clear hsc hwl hwn
  go_enter Tryd.func23, Tryd.ntmps23
  go_wp2_with (first
    | (with_reducible refine wpList_ld rfl 35 (.tmp 3) rfl (w.heap.size + 1) 0 rfl (cells b) ((Hid.out K1 _).range 0 _ (by simp)) (row64 (by rw [length_cells]; exact HL.out)) ?_)
    | (go_at_call 26; ((with_reducible refine (Hid.out HC _).mono ?_); rintro e w1 ⟨rfl, hb1⟩))
    | (with_reducible refine wpList_st rfl 57 (.tmp 5) (.tmp 16) rfl w1.heap.size 0 (c32 W) rfl rfl 57 (c32 (List.replicate 80 0)) (BlkV.new _ _ _) (by rw [c32_len, HN.out, c32_len]; simp) (row80 (by rw [c32_len]; exact HN.out)) (c32_one _) ?_; intro w2 hB2 ho2))
  have hz1 := hb1.size
  simp only [World.size_alloc] at hz1
  have f0 := ((K0.out _).below hb1 (by simp; omega)).alloc (.cells (c32 (List.replicate 80 0)).toArray 57) |>.only ho2 (by omega)
  have f2 := ((K2.out).below hb1 (by simp)).alloc (.cells (c32 (List.replicate 80 0)).toArray 57) |>.only ho2 (by omega)
  have fb := (((HB0.out _).trans (hb1.mono (by simp; omega))).alloc (by omega) (.cells (c32 (List.replicate 80 0)).toArray 57)).trans (ho2.below (B := w.heap.size) (by omega))
  rw [splice_all _ _ (by rw [c32_len, c32_len, HN.out]; simp)] at hB2
  have hz1' : w.heap.size + 1 + 1 < w1.heap.size := by omega
  clear hb1 ho2 hz hz1
  obtain ⟨q0, q1, q2, q3, q4⟩ := rangeS f0
  go_quiet (fail)
  have f0' : BlkV (w2.drewN nq) w.heap.size 51 (c32 s.l) := f0
  have f2' : BlkV (w2.drewN nq) (w.heap.size + 1 + 1) 51 (c32 [0, 0, 0, 0, 0]) := f2
  have f5' : BlkV (w2.drewN nq) w1.heap.size 57 (c32 W) := hB2
  have fb' : Below w.heap.size w (w2.drewN nq) := fb.trans ⟨rfl, rfl, rfl, Nat.le_refl _, fun _ _ => rfl⟩
  clear f0 f2 hB2 fb q0 q1 q2 q3 q4
  generalize w2.drewN nq = w3 at *
  obtain ⟨g5, hg5⟩ : ∃ g5, g5 = w1.heap.size := ⟨_, rfl⟩
  rw [← hg5] at f5' hz1' ⊢
  clear hg5
  go_wp2
  go_loopw [6, 7, 8, 9, 10, 27] (fun va vb vc vd ve vi wr => ∃ (t : Nat) (r : S5), t ≤ 80 ∧ r.ok ∧ Hid (r = rnds W s t) ∧ va = .int .u32 (r.a : Int) ∧ vb = .int .u32 (r.b : Int) ∧ vc = .int .u32 (r.c : Int) ∧ vd = .int .u32 (r.d : Int) ∧ ve = .int .u32 (r.e : Int) ∧ vi = .int .i64 t ∧
      BlkV wr w.heap.size 51 (c32 s.l) ∧ BlkV wr (w.heap.size + 1 + 1) 51 (c32 [0, 0, 0, 0, 0]) ∧ BlkV wr g5 57 (c32 W) ∧ Below w.heap.size w wr) (fun _ _ _ _ _ i _ => 80 - (intOf i).toNat)
  case atStart => exact ⟨0, s, by omega, hs, Lib.hid rfl, rfl, rfl, rfl, rfl, rfl, rfl, f0', f2', f5', fb'⟩
  case round =>
    obtain ⟨t, r, ht, hro, hr, rfl, rfl, rfl, rfl, rfl, rfl, g0, g2, g5', gb⟩ := hrel
    clear f0' f2' f5' fb'
    by_cases hlt : t < 80
    · obtain ⟨ba, bb, bc, bd, be⟩ := hro
      have hcell := (g5'.cell t).trans (c32_at (by rw [HN.out]; exact hlt))
      have hxl := all_getD HWL.out t
      have hfl := ff_lt t r.b r.c r.d bb bc bd
      have hkl := kk_lt t
      have hrl := rot_lt 5 r.a (by omega) ba
      have hrl2 := rot_lt 30 r.b (by omega) bb
      have hm := fun wx => mix_any t r.b r.c r.d wx hlt bb bc bd
      have hnext : rnds W s (t + 1) = ⟨(rot 5 r.a + ff t r.b r.c r.d + r.e + kk t + W.getD t 0) % 4294967296, r.a, rot 30 r.b, r.c, r.d⟩ := by rw [rnds, ← hr.out]; rfl
      have HNX := Lib.hid hnext
      clear hnext
      obtain ⟨x, hx⟩ : ∃ x, x = W.getD t 0 := ⟨_, rfl⟩
      obtain ⟨F, hF⟩ : ∃ F, F = ff t r.b r.c r.d := ⟨_, rfl⟩
      obtain ⟨K, hK⟩ : ∃ K, K = kk t := ⟨_, rfl⟩
      rw [← hx] at hcell hxl HNX
      rw [← hF] at hfl hm HNX
      rw [← hK] at hkl hm HNX
      clear hx hF hK
      have HM := Lib.hid hm
      clear hm
      have h5 := fun wx => rotl5 r.a wx ba
      have h30 := fun wx => rotl30 r.b wx bb
      obtain ⟨R5, hR5⟩ : ∃ R, R = rot 5 r.a := ⟨_, rfl⟩
      obtain ⟨R30, hR30⟩ : ∃ R, R = rot 30 r.b := ⟨_, rfl⟩
      rw [← hR5] at hrl h5 HNX
      rw [← hR30] at hrl2 h30 HNX
      clear hR5 hR30
      have H5 := Lib.hid h5
      have H30 := Lib.hid h30
      clear h5 h30
      have hti : (t : Int) < 80 := by omega
      go_wp2_with (first
        | (go_at_call 27; ((with_reducible refine (Hid.out HM _).mono ?_); rintro e w' ⟨rfl, rfl⟩)))
      go_quiet (first | (go_at_call 28; exact Calls.quiet_of_same ((Hid.out H5 _).mono fun _ _ ⟨h, h2⟩ => ⟨h, h2.symm⟩)))
      have hsum : (((R5 : Int) + F + r.e + K) % 4294967296 + x) % 4294967296 = (((R5 + F + r.e + K + x) % 4294967296 : Nat) : Int) := by omega
      obtain ⟨X, hX⟩ : ∃ X, X = (R5 + F + r.e + K + x) % 4294967296 := ⟨_, rfl⟩
      rw [← hX] at hsum HNX
      have hXl : X < 4294967296 := by omega
      rw [hsum]
      clear hsum hX
      go_wp2_with (first
        | (go_at_call 28; ((with_reducible refine (Hid.out H30 _).mono ?_); rintro e w' ⟨rfl, rfl⟩)))
      go_roundw
      case rel => exact ⟨t + 1, ⟨X, r.a, R30, r.c, r.d⟩, by omega, ⟨hXl, ba, hrl2, bc, bd⟩, Lib.hid HNX.out.symm, rfl, rfl, rfl, rfl, rfl, by go_num, g0, g2, g5', gb.trans ⟨rfl, rfl, rfl, Nat.le_refl _, fun _ _ => rfl⟩⟩
      case measure => simp [intOf]; omega
    · obtain rfl : t = 80 := by omega
      obtain ⟨q0, q1, q2, q3, q4⟩ := rangeS g0
      go_wp2_with (first
        | (with_reducible refine wpList_st rfl 51 (.tmp 4) (.tmp 77) rfl (w.heap.size + 1 + 1) 0 [.int .u32 (((s.a : Int) + r.a) % 4294967296), .int .u32 (((s.b : Int) + r.b) % 4294967296), .int .u32 (((s.c : Int) + r.c) % 4294967296), .int .u32 (((s.d : Int) + r.d) % 4294967296), .int .u32 (((s.e : Int) + r.e) % 4294967296)] rfl rfl 51 _ g2 (by simp [c32_len]) (row5 (by simp)) (by simp [Value.oneCell']) ?_; intro w4 hB4 ho4))
      rw [splice_all _ _ (by simp [c32_len])] at hB4
      have hB5 : BlkV w4 (w.heap.size + 1 + 1) 51 (c32 (s.plus (rnds W s 80)).l) := by
        rw [← hr.out]
        exact hB4
      exact ret_row (by rfl) (by rfl) hB5 (row5 (by rw [c32_len]; rfl)) (by rfl) ⟨rfl, gb.trans (ho4.below (by omega))⟩
end Go.Proofs.YtihaiplkkamkoaaDoor
