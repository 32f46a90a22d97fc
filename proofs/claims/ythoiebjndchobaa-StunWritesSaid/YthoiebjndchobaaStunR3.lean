/- What the document's answer for layer 12 (tenailleref12) tells of bytes: the message that they are (Read), walked. No statement is proved here. -/
import Derived.Test.YthoiebjndchobaaStunR2
import Derived.Test.YthoiebjndchobaaCut
import Derived.Deep.RegionHeld3
import Derived.Deep.DeepCutAuto
namespace Go.Proofs.Ythoiebjndchobaa
open Go.RowKit
set_option linter.unusedVariables false

theorem zS_len : zStn.length = 14 := rfl
theorem fitS : 0 + zStn.length ≤ zStn.length := Nat.le_refl 14
theorem zS_one : ∀ v ∈ zStn, v.oneCell' = true := by
  intro v hv
  simp only [zStn, sC, List.mem_cons, List.mem_append, List.not_mem_nil, or_false] at hv
  rcases hv with rfl | hv | rfl
  · rfl
  · exact cells_one _ v hv
  · rfl
theorem sC_one (ty : Nat) (tx : List UInt8) (A : Option Addr) (n c : Nat) : ∀ v ∈ sC ty tx (.slice A n c), v.oneCell' = true := by
  intro v hv
  simp only [sC, List.mem_cons, List.mem_append, List.not_mem_nil, or_false] at hv
  rcases hv with rfl | hv | rfl
  · rfl
  · exact cells_one _ v hv
  · rfl
theorem elAttr : ElT 47 26 2 := elT (by8 := 32) (z := .agg #[.int .u16 0, .slice none 0 0]) Try.underlying26 (by kernel_rfl) (by omega) rfl (by omega)
abbrev sboxW (w : World) : World := (w.alloc (.cells zStn.toArray 28)).alloc (.cells zStn.toArray 28)
set_option maxRecDepth 100000 in
set_option maxHeartbeats 2000000 in
theorem rread12_short (A : Option Addr) (n c : Nat) (bs : List UInt8) (w : World) (hr : RdS w A n c bs) (h20 : n < 20) :
    Calls Try.prog 8 #[.slice A n c] w (R12 bs w) := by
  have hz := zeroStn
  have HL := Lib.hid hr.len
  have HS := Lib.hid (RS.start w)
  have HZ : Hid (BlkV (sboxW w) (w.heap.size + 1) 28 zStn) := Lib.hid HS.out.2.2.1
  have HZ2 : Hid (BlkV (sboxW w) w.heap.size 28 zStn) := Lib.hid HS.out.2.1
  clear hr
  go_enter Try.func8, Try.ntmps8
  go_wp2_with (first
    | (with_reducible refine wpList_ld rfl 28 (.tmp 4) rfl (w.heap.size + 1) 0 rfl zStn (HZ.out.range 0 _ (fun i _ => by rw [Nat.zero_add])) (rowStn zS_len) ?_)
    | ((with_reducible refine wpList_st rfl 28 (.tmp 2) (.tmp 13) rfl w.heap.size 0 zStn rfl rfl 28 zStn HZ2.out fitS (rowStn zS_len) zS_one ?_); intro w3 hB3 ho3; rw [splice_all _ _ (by rfl)] at hB3))
  exact ret_row2 rfl rfl hB3 (rowStn zS_len) rfl (R12.short (by rw [HL.out]; exact h20) (HS.out.1.trans (ho3.below (Nat.le_refl _))))

set_option maxRecDepth 100000 in
set_option maxHeartbeats 4000000 in
theorem rread12_long (A : Option Addr) (n c : Nat) (bs : List UInt8) (w : World) (hr : RdS w A n c bs) (h20 : 20 ≤ n) (hn : n ≤ 100000) :
    Calls Try.prog 8 #[.slice A n c] w (R12 bs w) := by
  have hz := zeroStn
  have hl := hr.len
  have HL := Lib.hid hl
  have HR := Lib.hid hr
  have HS := Lib.hid (RS.start w)
  obtain ⟨b, off, rfl, hlt, hcs⟩ := hr.2.2.2.2 (by omega)
  have CB : Hid (∀ wx, Below w.heap.size w wx → ∀ j, j < n → wx.cell? ⟨b, off + j, none⟩ = some (.int .u8 ((bs.getD j 0).toNat : Int))) := Lib.hid fun wx hb j hj => (hb.cell (p := ⟨b, off + j, none⟩) hlt).trans (hcs j hj)
  have HN : Hid (∀ (p : Nat) wx, Below w.heap.size w wx → p + 2 ≤ n → Calls Try.prog 19 #[.slice (some ⟨b, off, none⟩) n c, .int .i64 p, .int .i64 2] wx fun e w' => e = .returned (.int .u64 (numb ((bs.drop p).take 2) : Nat)) ∧ wx = w') := Lib.hid fun p wx hb hp => rnum_yes (some ⟨b, off, none⟩) n c bs p 2 wx (hr.below hb) (by omega) (by omega) (by omega)
  have num2 : ∀ p, numb ((bs.drop p).take 2) < 65536 := fun p => Nat.lt_of_lt_of_le (numb_lt _) (Nat.le_trans (Nat.pow_le_pow_right (n := 256) (by omega) (show ((bs.drop p).take 2).length ≤ 2 by simp; omega)) (by decide))
  have N2 := Lib.hid num2
  obtain ⟨ty, hty⟩ : ∃ ty, ty = numb (bs.take 2) := ⟨_, rfl⟩
  have hty2 : ty < 65536 := by have := num2 0; simpa [hty] using this
  have HT0 : Hid (∀ wx, Below w.heap.size w wx → Calls Try.prog 19 #[.slice (some ⟨b, off, none⟩) n c, .int .i64 0, .int .i64 2] wx fun e w' => e = .returned (.int .u64 (ty : Int)) ∧ wx = w') := Lib.hid fun wx hb => by
    have := HN.out 0 wx hb (by omega)
    rw [List.drop_zero, ← hty] at this
    exact this
  have ety : IntKind.u16.wrap (ty : Int) = (ty : Int) := by rw [IntKind.wrap_u16]; omega
  have HTY := Lib.hid hty
  have k0 : (sboxW w).cell? ⟨w.heap.size + 1, 0, none⟩ = some (.int .u16 0) := (HS.out.2.2.1.cell 0).trans rfl
  have f0 := HS.out.2.2.1.frozen 0
  have HS0 := Lib.hid HS.out.1
  have HBS : Hid (20 ≤ bs.length) := Lib.hid (by omega)
  clear hr hcs hl num2 hty
  go_enter Try.func8, Try.ntmps8
  go_wp2_with (go_at_call 19; ((with_reducible refine (Hid.out HT0 _ HS0.out).mono ?_); rintro e w1 ⟨rfl, rfl⟩))
  have HS1 : Hid (RS w ty (fillT bs 0) (.slice none 0 0) ((w.alloc (.cells zStn.toArray 28)).alloc (.cells (zStn.set 0 (.int .u16 (ty : Int))).toArray 28))) := Lib.hid (by
    rw [show fillT bs 0 = Z12 by simp [fillT, Z12]]
    exact ⟨((Below.refl _ _).alloc (Nat.le_refl _) _).alloc (by simp) _, (BlkV.new _ _ _).alloc _, BlkV.new_at _ _ _ _ _ (by simp) rfl, by simp⟩)
  go_loopw [5] (fun i wr => ∃ j : Nat, j ≤ 12 ∧ i = .int .i64 j ∧ Hid (RS w ty (fillT bs j) (.slice none 0 0) wr)) (fun i _ => 12 - (intOf i).toNat)
  case atStart => exact ⟨0, by omega, rfl, HS1⟩
  case round =>
    obtain ⟨j, hj, rfl, HJ⟩ := hrel
    by_cases hj12 : j < 12
    · have q1 : wr.cell? ⟨b, off + (8 + j), none⟩ = some (.int .u8 ((bs.getD (8 + j) 0).toNat : Int)) := CB.out wr HJ.out.1 (8 + j) (by omega)
      have q2 : wr.cell? ⟨w.heap.size + 1, 1 + j, none⟩ = some (.int .u8 (((fillT bs j).getD j 0).toNat : Int)) := (HJ.out.2.2.1.cell (1 + j)).trans (sC_atT _ _ _ (by rw [fillT_len bs j hj HBS.out]; omega))
      have q3 := HJ.out.2.2.1.frozen (1 + j)
      have HJ2 : Hid (RS w ty (fillT bs (j + 1)) (.slice none 0 0) (wr.setCell ⟨w.heap.size + 1, 1 + j, none⟩ (.int .u8 ((bs.getD (8 + j) 0).toNat : Int)))) := Lib.hid (HJ.out.put (1 + j) _ (by rw [sC_setT _ _ _ (by rw [fillT_len bs j hj HBS.out]; omega), fillT_step bs j hj12 HBS.out]))
      obtain ⟨y, hy⟩ : ∃ y : Int, y = ((bs.getD (8 + j) 0).toNat : Int) := ⟨_, rfl⟩
      rw [← hy] at q1 HJ2
      have e8 : (8 + (j : Int)).toNat = 8 + j := by omega
      have e9 : IntKind.i64.wrap (8 + (j : Int)) = 8 + (j : Int) := by rw [IntKind.wrap_i64]; omega
      clear hy
      go_wp2
      go_roundw
      case rel => exact ⟨j + 1, by omega, by go_num, HJ2⟩
      case measure => simp [intOf]; omega
    · obtain rfl : j = 12 := by omega
      rw [fillT_all] at HJ
      obtain ⟨tx, htx⟩ : ∃ tx, tx = (bs.drop 8).take 12 := ⟨_, rfl⟩
      have htl : tx.length = 12 := by have := HBS.out; rw [htx]; simp; omega
      rw [← htx] at HJ
      have HTX := Lib.hid htx
      have HTL := Lib.hid htl
      clear htx htl hj hj12
      go_wp2
      go_loopw [6] (fun i wx => ∃ (p K : Nat) (A1 : Option Addr) (c1 : Nat) (L : List (Nat × List UInt8)), p ≤ n + 3 ∧ 20 ≤ p ∧ K ≤ p ∧ i = .int .i64 p ∧ Hid (L.length = K ∧ ∀ x ∈ L, x.1 < 65536) ∧ Hid (RS w ty tx (.slice A1 K c1) wx) ∧ Hid (AvO wx (w.heap.size + 2) A1 K c1 L) ∧ Hid (PartB bs L p)) (fun i _ => n + 4 - (intOf i).toNat)
      case atStart => exact ⟨20, 0, none, 0, [], by omega, by omega, by omega, rfl, Lib.hid ⟨rfl, by simp⟩, HJ, Lib.hid (AvO.nil _ _), Lib.hid (PartB.start bs)⟩
      case round =>
        obtain ⟨p, K, A1, c1, L, hp1, hp2, hK, rfl, HLL, HE, HO, HP⟩ := hrel
        have ep4 : IntKind.i64.wrap ((p : Int) + 4) = (p : Int) + 4 := by rw [IntKind.wrap_i64]; omega
        by_cases hp4 : (p : Int) + 4 ≤ (n : Int)
        · have hp4n : p + 4 ≤ bs.length := by rw [HL.out]; omega
          obtain ⟨N, hN⟩ : ∃ N, N = numb ((bs.drop (p + 2)).take 2) := ⟨_, rfl⟩
          have hN2 : N < 65536 := by rw [hN]; exact N2.out _
          have ep2 : IntKind.i64.wrap ((p : Int) + 2) = (p : Int) + 2 := by rw [IntKind.wrap_i64]; omega
          have HNN : Hid (∀ wx, Below w.heap.size w wx → Calls Try.prog 19 #[.slice (some ⟨b, off, none⟩) n c, .int .i64 ((p : Int) + 2), .int .i64 2] wx fun e w' => e = .returned (.int .u64 (N : Int)) ∧ wx = w') := Lib.hid fun wx hb => by
            have := HN.out (p + 2) wx hb (by omega)
            rw [← hN, show ((p + 2 : Nat) : Int) = (p : Int) + 2 by omega] at this
            exact this
          have eN : IntKind.i64.wrap (N : Int) = (N : Int) := by rw [IntKind.wrap_i64]; omega
          have epN : IntKind.i64.wrap ((p : Int) + 4 + (N : Int)) = (p : Int) + 4 + (N : Int) := by rw [IntKind.wrap_i64]; omega
          by_cases hbig : (n : Int) < (p : Int) + 4 + (N : Int)
          · have HBAD : Hid (∀ s, ¬ isMsg bs s) := Lib.hid (HP.out.bad hp4n (by rw [← hN, HL.out]; omega))
            have HE1 := Lib.hid HE.out.1
            have HE2 := Lib.hid HE.out.2.1
            clear hN hp4n
            go_wp2_with (first
              | (go_at_call 19; ((with_reducible refine (Hid.out HNN _ HE1.out).mono ?_); rintro e wx ⟨rfl, rfl⟩))
              | ((with_reducible refine wpList_st rfl 28 (.tmp 2) (.tmp 47) rfl w.heap.size 0 zStn rfl rfl 28 zStn HE2.out fitS (rowStn zS_len) zS_one ?_); intro w3 hB3 ho3; rw [splice_all _ _ (by rfl)] at hB3))
            exact ret_row2 rfl rfl hB3 (rowStn zS_len) rfl (R12.form (by rw [HL.out]; omega) HBAD.out (HE1.out.trans (ho3.below (Nat.le_refl _))))
          · have HX := Lib.hid (HP.out.step hp4n)
            obtain ⟨x1, hx1⟩ : ∃ x1, x1 = numb ((bs.drop p).take 2) := ⟨_, rfl⟩
            have hx1b : x1 < 65536 := by rw [hx1]; exact N2.out _
            obtain ⟨x2, hx2⟩ : ∃ x2, x2 = (bs.drop (p + 4)).take N := ⟨_, rfl⟩
            have hx2l : x2.length = N := by rw [hx2, List.length_take, List.length_drop, HL.out]; omega
            rw [← hN, ← hx1, ← hx2] at HX
            have HN1 : Hid (∀ wx, Below w.heap.size w wx → Calls Try.prog 19 #[.slice (some ⟨b, off, none⟩) n c, .int .i64 (p : Int), .int .i64 2] wx fun e w' => e = .returned (.int .u64 (x1 : Int)) ∧ wx = w') := Lib.hid fun wx hb => by
              have := HN.out p wx hb (by omega)
              rw [← hx1] at this
              exact this
            have ex1 : IntKind.u16.wrap (x1 : Int) = (x1 : Int) := by rw [IntKind.wrap_u16]; omega
            obtain ⟨A2, hs1, hs2, hr2⟩ := run_sl w (some ⟨b, off, none⟩) n c bs (p + 4) (p + 4 + N) ((p : Int) + 4) ((p : Int) + 4 + (N : Int)) (by omega) (by omega) (by omega) (by omega) HR.out
            rw [show p + 4 + N - (p + 4) = N by omega] at hs1 hs2 hr2
            rw [← hx2] at hr2
            obtain ⟨d, hd⟩ : ∃ d, d = c - (p + 4) := ⟨_, rfl⟩
            rw [← hd] at hs1 hs2 hr2
            have HR2 := Lib.hid hr2
            have HX2L := Lib.hid hx2l
            have HX1B := Lib.hid hx1b
            have HE1 := Lib.hid HE.out.1
            clear hN hx1 hx2 hr2 hd hx2l hx1b hp4n
            go_wp2_with (go_at_call 19; ((with_reducible refine (Hid.out HNN _ HE1.out).mono ?_); rintro e wx ⟨rfl, rfl⟩))
            go_cut [] (fun wx => ∃ (A6 : Option Addr) (c6 : Nat), Hid (RS w ty tx (.slice A6 (K + 1) c6) wx) ∧ Hid (AvO wx (w.heap.size + 2) A6 (K + 1) c6 (L ++ [(x1, x2)])))
            case first =>
              refine wp_region_noPanic ?_
              refine wp_region_held (S := fun _ => True) (by kernel_rfl) ?_
              change wpAnyH _ _ _ _ _ _ _ _ (World.drew _)
              have SD := Lib.hid HE.out.drew
              have OD := Lib.hid (HO.out.below (Below.drew (Below.refl _ _)))
              generalize wr.drew = wd at SD OD ⊢
              have R2 := Lib.hid (HR2.out.below SD.out.1)
              refine wpAnyH_take (i := 0) (v := ?_) rfl (by kernel_rfl) (by kernel_rfl) (by kernel_rfl) (fun _ _ _ h => h) (Or.inl ⟨by rfl, ?_⟩) trivial ?_
              case refine_2 => (intro wz hz; go_simp; with_reducible rfl)
              simp only [Act.put, List.getElem_toArray, List.getElem_cons_zero, List.setIfInBounds_toArray, List.set_cons_succ, List.set_cons_zero]
              refine wpAnyH_take (i := 2) (v := ?_) rfl (by kernel_rfl) (by kernel_rfl) (by kernel_rfl) (fun _ _ _ h => h) (Or.inl ⟨by rfl, ?_⟩) trivial ?_
              case refine_2 => (intro wz hz; go_simp; with_reducible rfl)
              simp only [Act.put, List.getElem_toArray, List.getElem_cons_succ, List.getElem_cons_zero, List.setIfInBounds_toArray, List.set_cons_succ, List.set_cons_zero]
              refine wpAnyH_take (i := 3) (v := ?_) rfl (by kernel_rfl) (by kernel_rfl) (by kernel_rfl) (fun _ _ _ h => h) (Or.inl ⟨by rfl, ?_⟩) trivial ?_
              case refine_2 => (intro wz hz; go_simp; with_reducible rfl)
              simp only [Act.put, List.getElem_toArray, List.getElem_cons_succ, List.getElem_cons_zero, List.setIfInBounds_toArray, List.set_cons_succ, List.set_cons_zero]
              refine wpAnyH_take (i := 7) (v := ?_) rfl (by kernel_rfl) (by kernel_rfl) (by kernel_rfl) (fun _ _ _ h => h) (Or.inl ⟨by rfl, ?_⟩) trivial ?_
              case refine_2 => (intro wz hz; go_simp; with_reducible rfl)
              simp only [Act.put, List.getElem_toArray, List.getElem_cons_succ, List.getElem_cons_zero, List.setIfInBounds_toArray, List.set_cons_succ, List.set_cons_zero]
              refine wpAnyH_take (i := 8) (v := ?_) rfl (by kernel_rfl) (by kernel_rfl) (by kernel_rfl) (fun _ _ _ h => h) (Or.inl ⟨by rfl, ?_⟩) trivial ?_
              case refine_2 => (intro wz hz; go_simp; with_reducible rfl)
              simp only [Act.put, List.getElem_toArray, List.getElem_cons_succ, List.getElem_cons_zero, List.setIfInBounds_toArray, List.set_cons_succ, List.set_cons_zero]
              refine wpAnyH_take (i := 9) (v := ?_) rfl (by kernel_rfl) (by kernel_rfl) (by kernel_rfl) (fun _ _ _ h => h) (Or.inl ⟨by rfl, ?_⟩) trivial ?_
              case refine_2 => (intro wz hz; go_simp; with_reducible rfl)
              simp only [Act.put, List.getElem_toArray, List.getElem_cons_succ, List.getElem_cons_zero, List.setIfInBounds_toArray, List.set_cons_succ, List.set_cons_zero]
              refine wpAnyH_take (i := 10) (v := ?_) rfl (by kernel_rfl) (by kernel_rfl) (by kernel_rfl) (fun _ _ _ h => h) (Or.inl ⟨by rfl, ?_⟩) trivial ?_
              case refine_2 => (intro wz hz; go_simp; with_reducible rfl)
              simp only [Act.put, List.getElem_toArray, List.getElem_cons_succ, List.getElem_cons_zero, List.setIfInBounds_toArray, List.set_cons_succ, List.set_cons_zero]
              refine wpAnyH_take (i := 11) (v := ?_) rfl (by kernel_rfl) (by kernel_rfl) (by kernel_rfl) (fun _ _ _ h => h) (Or.inl ⟨by rfl, ?_⟩) trivial ?_
              case refine_2 => (intro wz hz; go_simp; with_reducible rfl)
              simp only [Act.put, List.getElem_toArray, List.getElem_cons_succ, List.getElem_cons_zero, List.setIfInBounds_toArray, List.set_cons_succ, List.set_cons_zero]
              refine wpAnyH_take (i := 12) (v := ?_) rfl (by kernel_rfl) (by kernel_rfl) (by kernel_rfl) (fun _ _ _ h => h) (Or.inl ⟨by rfl, ?_⟩) trivial ?_
              case refine_2 => (intro wz hz; go_simp; with_reducible rfl)
              simp only [Act.put, List.getElem_toArray, List.getElem_cons_succ, List.getElem_cons_zero, List.setIfInBounds_toArray, List.set_cons_succ, List.set_cons_zero]
              refine wpAnyH_take (i := 13) (v := ?_) rfl (by kernel_rfl) (by kernel_rfl) (by kernel_rfl) (fun _ _ _ h => h) (Or.inl ⟨by rfl, ?_⟩) trivial ?_
              case refine_2 => (intro wz hz; go_simp; with_reducible rfl)
              simp only [Act.put, List.getElem_toArray, List.getElem_cons_succ, List.getElem_cons_zero, List.setIfInBounds_toArray, List.set_cons_succ, List.set_cons_zero]
              refine wpAnyH_take (i := 14) (v := ?_) rfl (by kernel_rfl) (by kernel_rfl) (by kernel_rfl) (fun _ _ _ h => h) (Or.inl ⟨by rfl, ?_⟩) trivial ?_
              case refine_2 => (intro wz hz; go_simp; with_reducible rfl)
              simp only [Act.put, List.getElem_toArray, List.getElem_cons_succ, List.getElem_cons_zero, List.setIfInBounds_toArray, List.set_cons_succ, List.set_cons_zero]
              refine anyH_three (i := 1) (j := 4) (k := 6) (by kernel_rfl) rfl rfl rfl rfl rfl rfl (fun H hH => ?_) (fun H hH => ?_) (fun H hH => ?_)
              · simp only [List.getElem_toArray, List.getElem_cons_succ, List.getElem_cons_zero]
                have kk : wd.cell? ⟨w.heap.size + 1, 13, none⟩ = some (.slice A1 K c1) := (SD.out.2.2.1.cell 13).trans (sC_at13 _ _ _ HTL.out)
                go_simp
                clear kk
                refine hH _ _ trivial ?_
                clear hH H
                refine anyH_two (i := 4) (j := 6) (by kernel_rfl) rfl rfl rfl rfl (fun H hH => ?_) (fun H hH => ?_)
                · simp only [List.getElem_toArray, List.getElem_cons_succ, List.getElem_cons_zero]
                  go_simp
                  refine (HN1.out _ SD.out.1).mono ?_
                  rintro e wx ⟨rfl, rfl⟩
                  refine hH _ _ trivial ?_
                  clear hH H
                  refine wpAnyH_take (i := 5) (v := ?_) rfl (by kernel_rfl) (by kernel_rfl) (by kernel_rfl) (fun _ _ _ h => h) (Or.inl ⟨by rfl, ?_⟩) trivial ?_
                  case refine_2 => (intro wz hz; go_simp; with_reducible rfl)
                  simp only [Act.put, List.getElem_toArray, List.getElem_cons_succ, List.getElem_cons_zero, List.setIfInBounds_toArray, List.set_cons_succ, List.set_cons_zero]
                  refine anyH_one (i := 6) (by kernel_rfl) rfl rfl (fun H hH => ?_)
                  simp only [List.getElem_toArray, List.getElem_cons_succ, List.getElem_cons_zero]
                  go_simp
                  have SB := Lib.hid (SD.out.on ((Below.refl wd.heap.size wd).alloc (Nat.le_refl _) (.cells #[] 5)))
                  have OB := Lib.hid (OD.out.below ((Below.refl wd.heap.size wd).alloc (Nat.le_refl _) (.cells #[] 5)))
                  have RB := Lib.hid (R2.out.below ((Below.refl wd.heap.size wd).alloc (Nat.le_refl _) (.cells #[] 5)))
                  refine hH _ _ trivial ?_
                  clear hH H
                  refine anyH_one (i := 15) (by kernel_rfl) rfl rfl (fun H hH => ?_)
                  simp only [List.getElem_toArray, List.getElem_cons_succ, List.getElem_cons_zero]
                  refine wp_append_rd _ (.tmp 54) (.tmp 62) rfl Try.underlying22 u8_infoR wd.heap.size (.slice (some ⟨wd.heap.size, 0, none⟩) 0 0) 0 [] rfl (own_empty wd) A2 N d x2 rfl RB.out (by omega) (by simp) ?_
                  intro v4 w4 hown hg hat
                  obtain ⟨hown, hb4⟩ := own_first HX2L.out hown hg
                  obtain ⟨D, dc, hv⟩ := own_formN hown
                  subst hv
                  have S4 := Lib.hid (SD.out.on hb4)
                  have O4 := Lib.hid (OD.out.below hb4)
                  have D4 := Lib.hid (own_moN hown SD.out.2.2.2)
                  clear hown hg hat hb4
                  refine hH _ _ trivial ?_
                  clear hH H
                  refine wpAnyH_take (i := 16) (v := ?_) rfl (by kernel_rfl) (by kernel_rfl) (by kernel_rfl) (fun _ _ _ h => h) (Or.inl ⟨by rfl, ?_⟩) trivial ?_
                  case refine_2 => (intro wz hz; go_simp; with_reducible rfl)
                  simp only [Act.put, List.getElem_toArray, List.getElem_cons_succ, List.getElem_cons_zero, List.setIfInBounds_toArray, List.set_cons_succ, List.set_cons_zero]
                  refine anyH_one (i := 17) (by kernel_rfl) rfl rfl (fun H hH => ?_)
                  simp only [List.getElem_toArray, List.getElem_cons_succ, List.getElem_cons_zero]
                  go_simp
                  have S5 := Lib.hid (S4.out.on ((Below.refl w4.heap.size w4).alloc (Nat.le_refl _) (.cells #[.int .u16 (x1 : Int), .slice D N dc] 47)))
                  have O5 := Lib.hid (O4.out.below ((Below.refl w4.heap.size w4).alloc (Nat.le_refl _) (.cells #[.int .u16 (x1 : Int), .slice D N dc] 47)))
                  have D5 := Lib.hid (own_thN D4.out (grown_of_below ((Below.refl w4.heap.size w4).alloc (Nat.le_refl _) (.cells #[.int .u16 (x1 : Int), .slice D N dc] 47)) none) (fun p hp => by cases hp))
                  refine hH _ _ trivial ?_
                  clear hH H
                  obtain ⟨rows, q1, q2, q3, q4⟩ := O5.out
                  have Q1 := Lib.hid q1
                  have Q2 := Lib.hid q2
                  have Q4 := Lib.hid q4
                  clear q1 q2 q3 q4
                  refine anyH_one (i := 18) (by kernel_rfl) rfl rfl (fun H hH => ?_)
                  simp only [List.getElem_toArray, List.getElem_cons_succ, List.getElem_cons_zero]
                  refine wp_appV (.tmp 49) (.tmp 65) elAttr rfl (w.heap.size + 2) (.slice A1 K c1) K rows.flatten rfl Q2.out w4.heap.size rfl [.int .u16 (x1 : Int), .slice D N dc] rfl (fun u hu => by simp at hu; rcases hu with rfl | rfl <;> rfl) (BlkV.new w4 47 _) (by omega) S5.out.2.2.2 ?_
                  intro v6 w6 hown6 hg6 _
                  obtain ⟨A6, c6, hv6⟩ := own_formN hown6
                  subst hv6
                  have S6 := Lib.hid (S5.out.grown hg6 (fun q hq => (Q2.out.lt q hq).1))
                  have O6 : Hid (AvO w6 (w.heap.size + 2) A6 (K + 1) c6 (L ++ [(x1, x2)])) := Lib.hid (O5.out.more (x1, x2) D dc (by simp only [HX2L.out]; exact D5.out) hg6 rows Q2.out Q1.out Q4.out (by simp only [HX2L.out]; exact hown6) rfl)
                  clear hown6 hg6 Q1 Q2 Q4
                  have k13 : w6.cell? ⟨w.heap.size + 1, 13, none⟩ = some (.slice A1 K c1) := (S6.out.2.2.1.cell 13).trans (sC_at13 _ _ _ HTL.out)
                  have f13 := S6.out.2.2.1.frozen 13
                  refine hH _ _ trivial ?_
                  clear hH H
                  refine wpAnyH_take (i := 19) (v := ?_) rfl (by kernel_rfl) (by kernel_rfl) (by kernel_rfl) (fun _ _ _ h => h) (Or.inl ⟨by rfl, ?_⟩) trivial ?_
                  case refine_2 => (intro wz hz; go_simp; with_reducible rfl)
                  simp only [Act.put, List.getElem_toArray, List.getElem_cons_succ, List.getElem_cons_zero, List.setIfInBounds_toArray, List.set_cons_succ, List.set_cons_zero]
                  refine anyH_one (i := 20) (by kernel_rfl) rfl rfl (fun H hH => ?_)
                  simp only [List.getElem_toArray, List.getElem_cons_succ, List.getElem_cons_zero]
                  go_simp
                  have S7 := Lib.hid (S6.out.put 13 (.slice A6 (K + 1) c6) (sC_set13 ty tx (.slice A1 K c1) (.slice A6 (K + 1) c6) HTL.out))
                  have O7 := Lib.hid (O6.out.only (Only.set w6 (w.heap.size + 1) 13 (.slice A6 (K + 1) c6)) (by omega))
                  generalize w6.setCell ⟨w.heap.size + 1, 13, none⟩ (.slice A6 (K + 1) c6) = w7 at S7 O7 ⊢
                  clear k13 f13 S6 O6
                  refine hH _ _ trivial ?_
                  clear hH H
                  refine wpAnyH_done (by kernel_rfl) ?_ _
                  refine NoPanic.normal ?_
                  go_wp2_with fail
                  go_meet
                  exact ⟨A6, c6, S7, O7⟩
                · simp only [List.getElem_toArray, List.getElem_cons_succ, List.getElem_cons_zero]
                  go_simp
                  have SB := Lib.hid (SD.out.on ((Below.refl wd.heap.size wd).alloc (Nat.le_refl _) (.cells #[] 5)))
                  have OB := Lib.hid (OD.out.below ((Below.refl wd.heap.size wd).alloc (Nat.le_refl _) (.cells #[] 5)))
                  have RB := Lib.hid (R2.out.below ((Below.refl wd.heap.size wd).alloc (Nat.le_refl _) (.cells #[] 5)))
                  refine hH _ _ trivial ?_
                  clear hH H
                  refine anyH_one (i := 4) (by kernel_rfl) rfl rfl (fun H hH => ?_)
                  simp only [List.getElem_toArray, List.getElem_cons_succ, List.getElem_cons_zero]
                  go_simp
                  refine (HN1.out _ SB.out.1).mono ?_
                  rintro e wx ⟨rfl, rfl⟩
                  refine hH _ _ trivial ?_
                  clear hH H
                  refine wpAnyH_take (i := 5) (v := ?_) rfl (by kernel_rfl) (by kernel_rfl) (by kernel_rfl) (fun _ _ _ h => h) (Or.inl ⟨by rfl, ?_⟩) trivial ?_
                  case refine_2 => (intro wz hz; go_simp; with_reducible rfl)
                  simp only [Act.put, List.getElem_toArray, List.getElem_cons_succ, List.getElem_cons_zero, List.setIfInBounds_toArray, List.set_cons_succ, List.set_cons_zero]
                  refine anyH_one (i := 15) (by kernel_rfl) rfl rfl (fun H hH => ?_)
                  simp only [List.getElem_toArray, List.getElem_cons_succ, List.getElem_cons_zero]
                  refine wp_append_rd _ (.tmp 54) (.tmp 62) rfl Try.underlying22 u8_infoR wd.heap.size (.slice (some ⟨wd.heap.size, 0, none⟩) 0 0) 0 [] rfl (own_empty wd) A2 N d x2 rfl RB.out (by omega) (by simp) ?_
                  intro v4 w4 hown hg hat
                  obtain ⟨hown, hb4⟩ := own_first HX2L.out hown hg
                  obtain ⟨D, dc, hv⟩ := own_formN hown
                  subst hv
                  have S4 := Lib.hid (SD.out.on hb4)
                  have O4 := Lib.hid (OD.out.below hb4)
                  have D4 := Lib.hid (own_moN hown SD.out.2.2.2)
                  clear hown hg hat hb4
                  refine hH _ _ trivial ?_
                  clear hH H
                  refine wpAnyH_take (i := 16) (v := ?_) rfl (by kernel_rfl) (by kernel_rfl) (by kernel_rfl) (fun _ _ _ h => h) (Or.inl ⟨by rfl, ?_⟩) trivial ?_
                  case refine_2 => (intro wz hz; go_simp; with_reducible rfl)
                  simp only [Act.put, List.getElem_toArray, List.getElem_cons_succ, List.getElem_cons_zero, List.setIfInBounds_toArray, List.set_cons_succ, List.set_cons_zero]
                  refine anyH_one (i := 17) (by kernel_rfl) rfl rfl (fun H hH => ?_)
                  simp only [List.getElem_toArray, List.getElem_cons_succ, List.getElem_cons_zero]
                  go_simp
                  have S5 := Lib.hid (S4.out.on ((Below.refl w4.heap.size w4).alloc (Nat.le_refl _) (.cells #[.int .u16 (x1 : Int), .slice D N dc] 47)))
                  have O5 := Lib.hid (O4.out.below ((Below.refl w4.heap.size w4).alloc (Nat.le_refl _) (.cells #[.int .u16 (x1 : Int), .slice D N dc] 47)))
                  have D5 := Lib.hid (own_thN D4.out (grown_of_below ((Below.refl w4.heap.size w4).alloc (Nat.le_refl _) (.cells #[.int .u16 (x1 : Int), .slice D N dc] 47)) none) (fun p hp => by cases hp))
                  refine hH _ _ trivial ?_
                  clear hH H
                  obtain ⟨rows, q1, q2, q3, q4⟩ := O5.out
                  have Q1 := Lib.hid q1
                  have Q2 := Lib.hid q2
                  have Q4 := Lib.hid q4
                  clear q1 q2 q3 q4
                  refine anyH_one (i := 18) (by kernel_rfl) rfl rfl (fun H hH => ?_)
                  simp only [List.getElem_toArray, List.getElem_cons_succ, List.getElem_cons_zero]
                  refine wp_appV (.tmp 49) (.tmp 65) elAttr rfl (w.heap.size + 2) (.slice A1 K c1) K rows.flatten rfl Q2.out w4.heap.size rfl [.int .u16 (x1 : Int), .slice D N dc] rfl (fun u hu => by simp at hu; rcases hu with rfl | rfl <;> rfl) (BlkV.new w4 47 _) (by omega) S5.out.2.2.2 ?_
                  intro v6 w6 hown6 hg6 _
                  obtain ⟨A6, c6, hv6⟩ := own_formN hown6
                  subst hv6
                  have S6 := Lib.hid (S5.out.grown hg6 (fun q hq => (Q2.out.lt q hq).1))
                  have O6 : Hid (AvO w6 (w.heap.size + 2) A6 (K + 1) c6 (L ++ [(x1, x2)])) := Lib.hid (O5.out.more (x1, x2) D dc (by simp only [HX2L.out]; exact D5.out) hg6 rows Q2.out Q1.out Q4.out (by simp only [HX2L.out]; exact hown6) rfl)
                  clear hown6 hg6 Q1 Q2 Q4
                  have k13 : w6.cell? ⟨w.heap.size + 1, 13, none⟩ = some (.slice A1 K c1) := (S6.out.2.2.1.cell 13).trans (sC_at13 _ _ _ HTL.out)
                  have f13 := S6.out.2.2.1.frozen 13
                  refine hH _ _ trivial ?_
                  clear hH H
                  refine wpAnyH_take (i := 19) (v := ?_) rfl (by kernel_rfl) (by kernel_rfl) (by kernel_rfl) (fun _ _ _ h => h) (Or.inl ⟨by rfl, ?_⟩) trivial ?_
                  case refine_2 => (intro wz hz; go_simp; with_reducible rfl)
                  simp only [Act.put, List.getElem_toArray, List.getElem_cons_succ, List.getElem_cons_zero, List.setIfInBounds_toArray, List.set_cons_succ, List.set_cons_zero]
                  refine anyH_one (i := 20) (by kernel_rfl) rfl rfl (fun H hH => ?_)
                  simp only [List.getElem_toArray, List.getElem_cons_succ, List.getElem_cons_zero]
                  go_simp
                  have S7 := Lib.hid (S6.out.put 13 (.slice A6 (K + 1) c6) (sC_set13 ty tx (.slice A1 K c1) (.slice A6 (K + 1) c6) HTL.out))
                  have O7 := Lib.hid (O6.out.only (Only.set w6 (w.heap.size + 1) 13 (.slice A6 (K + 1) c6)) (by omega))
                  generalize w6.setCell ⟨w.heap.size + 1, 13, none⟩ (.slice A6 (K + 1) c6) = w7 at S7 O7 ⊢
                  clear k13 f13 S6 O6
                  refine hH _ _ trivial ?_
                  clear hH H
                  refine wpAnyH_done (by kernel_rfl) ?_ _
                  refine NoPanic.normal ?_
                  go_wp2_with fail
                  go_meet
                  exact ⟨A6, c6, S7, O7⟩
              · simp only [List.getElem_toArray, List.getElem_cons_succ, List.getElem_cons_zero]
                go_simp
                refine (HN1.out _ SD.out.1).mono ?_
                rintro e wx ⟨rfl, rfl⟩
                refine hH _ _ trivial ?_
                clear hH H
                refine wpAnyH_take (i := 5) (v := ?_) rfl (by kernel_rfl) (by kernel_rfl) (by kernel_rfl) (fun _ _ _ h => h) (Or.inl ⟨by rfl, ?_⟩) trivial ?_
                case refine_2 => (intro wz hz; go_simp; with_reducible rfl)
                simp only [Act.put, List.getElem_toArray, List.getElem_cons_succ, List.getElem_cons_zero, List.setIfInBounds_toArray, List.set_cons_succ, List.set_cons_zero]
                refine anyH_two (i := 1) (j := 6) (by kernel_rfl) rfl rfl rfl rfl (fun H hH => ?_) (fun H hH => ?_)
                · simp only [List.getElem_toArray, List.getElem_cons_succ, List.getElem_cons_zero]
                  have kk : wd.cell? ⟨w.heap.size + 1, 13, none⟩ = some (.slice A1 K c1) := (SD.out.2.2.1.cell 13).trans (sC_at13 _ _ _ HTL.out)
                  go_simp
                  clear kk
                  refine hH _ _ trivial ?_
                  clear hH H
                  refine anyH_one (i := 6) (by kernel_rfl) rfl rfl (fun H hH => ?_)
                  simp only [List.getElem_toArray, List.getElem_cons_succ, List.getElem_cons_zero]
                  go_simp
                  have SB := Lib.hid (SD.out.on ((Below.refl wd.heap.size wd).alloc (Nat.le_refl _) (.cells #[] 5)))
                  have OB := Lib.hid (OD.out.below ((Below.refl wd.heap.size wd).alloc (Nat.le_refl _) (.cells #[] 5)))
                  have RB := Lib.hid (R2.out.below ((Below.refl wd.heap.size wd).alloc (Nat.le_refl _) (.cells #[] 5)))
                  refine hH _ _ trivial ?_
                  clear hH H
                  refine anyH_one (i := 15) (by kernel_rfl) rfl rfl (fun H hH => ?_)
                  simp only [List.getElem_toArray, List.getElem_cons_succ, List.getElem_cons_zero]
                  refine wp_append_rd _ (.tmp 54) (.tmp 62) rfl Try.underlying22 u8_infoR wd.heap.size (.slice (some ⟨wd.heap.size, 0, none⟩) 0 0) 0 [] rfl (own_empty wd) A2 N d x2 rfl RB.out (by omega) (by simp) ?_
                  intro v4 w4 hown hg hat
                  obtain ⟨hown, hb4⟩ := own_first HX2L.out hown hg
                  obtain ⟨D, dc, hv⟩ := own_formN hown
                  subst hv
                  have S4 := Lib.hid (SD.out.on hb4)
                  have O4 := Lib.hid (OD.out.below hb4)
                  have D4 := Lib.hid (own_moN hown SD.out.2.2.2)
                  clear hown hg hat hb4
                  refine hH _ _ trivial ?_
                  clear hH H
                  refine wpAnyH_take (i := 16) (v := ?_) rfl (by kernel_rfl) (by kernel_rfl) (by kernel_rfl) (fun _ _ _ h => h) (Or.inl ⟨by rfl, ?_⟩) trivial ?_
                  case refine_2 => (intro wz hz; go_simp; with_reducible rfl)
                  simp only [Act.put, List.getElem_toArray, List.getElem_cons_succ, List.getElem_cons_zero, List.setIfInBounds_toArray, List.set_cons_succ, List.set_cons_zero]
                  refine anyH_one (i := 17) (by kernel_rfl) rfl rfl (fun H hH => ?_)
                  simp only [List.getElem_toArray, List.getElem_cons_succ, List.getElem_cons_zero]
                  go_simp
                  have S5 := Lib.hid (S4.out.on ((Below.refl w4.heap.size w4).alloc (Nat.le_refl _) (.cells #[.int .u16 (x1 : Int), .slice D N dc] 47)))
                  have O5 := Lib.hid (O4.out.below ((Below.refl w4.heap.size w4).alloc (Nat.le_refl _) (.cells #[.int .u16 (x1 : Int), .slice D N dc] 47)))
                  have D5 := Lib.hid (own_thN D4.out (grown_of_below ((Below.refl w4.heap.size w4).alloc (Nat.le_refl _) (.cells #[.int .u16 (x1 : Int), .slice D N dc] 47)) none) (fun p hp => by cases hp))
                  refine hH _ _ trivial ?_
                  clear hH H
                  obtain ⟨rows, q1, q2, q3, q4⟩ := O5.out
                  have Q1 := Lib.hid q1
                  have Q2 := Lib.hid q2
                  have Q4 := Lib.hid q4
                  clear q1 q2 q3 q4
                  refine anyH_one (i := 18) (by kernel_rfl) rfl rfl (fun H hH => ?_)
                  simp only [List.getElem_toArray, List.getElem_cons_succ, List.getElem_cons_zero]
                  refine wp_appV (.tmp 49) (.tmp 65) elAttr rfl (w.heap.size + 2) (.slice A1 K c1) K rows.flatten rfl Q2.out w4.heap.size rfl [.int .u16 (x1 : Int), .slice D N dc] rfl (fun u hu => by simp at hu; rcases hu with rfl | rfl <;> rfl) (BlkV.new w4 47 _) (by omega) S5.out.2.2.2 ?_
                  intro v6 w6 hown6 hg6 _
                  obtain ⟨A6, c6, hv6⟩ := own_formN hown6
                  subst hv6
                  have S6 := Lib.hid (S5.out.grown hg6 (fun q hq => (Q2.out.lt q hq).1))
                  have O6 : Hid (AvO w6 (w.heap.size + 2) A6 (K + 1) c6 (L ++ [(x1, x2)])) := Lib.hid (O5.out.more (x1, x2) D dc (by simp only [HX2L.out]; exact D5.out) hg6 rows Q2.out Q1.out Q4.out (by simp only [HX2L.out]; exact hown6) rfl)
                  clear hown6 hg6 Q1 Q2 Q4
                  have k13 : w6.cell? ⟨w.heap.size + 1, 13, none⟩ = some (.slice A1 K c1) := (S6.out.2.2.1.cell 13).trans (sC_at13 _ _ _ HTL.out)
                  have f13 := S6.out.2.2.1.frozen 13
                  refine hH _ _ trivial ?_
                  clear hH H
                  refine wpAnyH_take (i := 19) (v := ?_) rfl (by kernel_rfl) (by kernel_rfl) (by kernel_rfl) (fun _ _ _ h => h) (Or.inl ⟨by rfl, ?_⟩) trivial ?_
                  case refine_2 => (intro wz hz; go_simp; with_reducible rfl)
                  simp only [Act.put, List.getElem_toArray, List.getElem_cons_succ, List.getElem_cons_zero, List.setIfInBounds_toArray, List.set_cons_succ, List.set_cons_zero]
                  refine anyH_one (i := 20) (by kernel_rfl) rfl rfl (fun H hH => ?_)
                  simp only [List.getElem_toArray, List.getElem_cons_succ, List.getElem_cons_zero]
                  go_simp
                  have S7 := Lib.hid (S6.out.put 13 (.slice A6 (K + 1) c6) (sC_set13 ty tx (.slice A1 K c1) (.slice A6 (K + 1) c6) HTL.out))
                  have O7 := Lib.hid (O6.out.only (Only.set w6 (w.heap.size + 1) 13 (.slice A6 (K + 1) c6)) (by omega))
                  generalize w6.setCell ⟨w.heap.size + 1, 13, none⟩ (.slice A6 (K + 1) c6) = w7 at S7 O7 ⊢
                  clear k13 f13 S6 O6
                  refine hH _ _ trivial ?_
                  clear hH H
                  refine wpAnyH_done (by kernel_rfl) ?_ _
                  refine NoPanic.normal ?_
                  go_wp2_with fail
                  go_meet
                  exact ⟨A6, c6, S7, O7⟩
                · simp only [List.getElem_toArray, List.getElem_cons_succ, List.getElem_cons_zero]
                  go_simp
                  have SB := Lib.hid (SD.out.on ((Below.refl wd.heap.size wd).alloc (Nat.le_refl _) (.cells #[] 5)))
                  have OB := Lib.hid (OD.out.below ((Below.refl wd.heap.size wd).alloc (Nat.le_refl _) (.cells #[] 5)))
                  have RB := Lib.hid (R2.out.below ((Below.refl wd.heap.size wd).alloc (Nat.le_refl _) (.cells #[] 5)))
                  refine hH _ _ trivial ?_
                  clear hH H
                  refine anyH_two (i := 1) (j := 15) (by kernel_rfl) rfl rfl rfl rfl (fun H hH => ?_) (fun H hH => ?_)
                  · simp only [List.getElem_toArray, List.getElem_cons_succ, List.getElem_cons_zero]
                    have kk : (wd.alloc (.cells #[] 5)).cell? ⟨w.heap.size + 1, 13, none⟩ = some (.slice A1 K c1) := (SB.out.2.2.1.cell 13).trans (sC_at13 _ _ _ HTL.out)
                    go_simp
                    clear kk
                    refine hH _ _ trivial ?_
                    clear hH H
                    refine anyH_one (i := 15) (by kernel_rfl) rfl rfl (fun H hH => ?_)
                    simp only [List.getElem_toArray, List.getElem_cons_succ, List.getElem_cons_zero]
                    refine wp_append_rd _ (.tmp 54) (.tmp 62) rfl Try.underlying22 u8_infoR wd.heap.size (.slice (some ⟨wd.heap.size, 0, none⟩) 0 0) 0 [] rfl (own_empty wd) A2 N d x2 rfl RB.out (by omega) (by simp) ?_
                    intro v4 w4 hown hg hat
                    obtain ⟨hown, hb4⟩ := own_first HX2L.out hown hg
                    obtain ⟨D, dc, hv⟩ := own_formN hown
                    subst hv
                    have S4 := Lib.hid (SD.out.on hb4)
                    have O4 := Lib.hid (OD.out.below hb4)
                    have D4 := Lib.hid (own_moN hown SD.out.2.2.2)
                    clear hown hg hat hb4
                    refine hH _ _ trivial ?_
                    clear hH H
                    refine wpAnyH_take (i := 16) (v := ?_) rfl (by kernel_rfl) (by kernel_rfl) (by kernel_rfl) (fun _ _ _ h => h) (Or.inl ⟨by rfl, ?_⟩) trivial ?_
                    case refine_2 => (intro wz hz; go_simp; with_reducible rfl)
                    simp only [Act.put, List.getElem_toArray, List.getElem_cons_succ, List.getElem_cons_zero, List.setIfInBounds_toArray, List.set_cons_succ, List.set_cons_zero]
                    refine anyH_one (i := 17) (by kernel_rfl) rfl rfl (fun H hH => ?_)
                    simp only [List.getElem_toArray, List.getElem_cons_succ, List.getElem_cons_zero]
                    go_simp
                    have S5 := Lib.hid (S4.out.on ((Below.refl w4.heap.size w4).alloc (Nat.le_refl _) (.cells #[.int .u16 (x1 : Int), .slice D N dc] 47)))
                    have O5 := Lib.hid (O4.out.below ((Below.refl w4.heap.size w4).alloc (Nat.le_refl _) (.cells #[.int .u16 (x1 : Int), .slice D N dc] 47)))
                    have D5 := Lib.hid (own_thN D4.out (grown_of_below ((Below.refl w4.heap.size w4).alloc (Nat.le_refl _) (.cells #[.int .u16 (x1 : Int), .slice D N dc] 47)) none) (fun p hp => by cases hp))
                    refine hH _ _ trivial ?_
                    clear hH H
                    obtain ⟨rows, q1, q2, q3, q4⟩ := O5.out
                    have Q1 := Lib.hid q1
                    have Q2 := Lib.hid q2
                    have Q4 := Lib.hid q4
                    clear q1 q2 q3 q4
                    refine anyH_one (i := 18) (by kernel_rfl) rfl rfl (fun H hH => ?_)
                    simp only [List.getElem_toArray, List.getElem_cons_succ, List.getElem_cons_zero]
                    refine wp_appV (.tmp 49) (.tmp 65) elAttr rfl (w.heap.size + 2) (.slice A1 K c1) K rows.flatten rfl Q2.out w4.heap.size rfl [.int .u16 (x1 : Int), .slice D N dc] rfl (fun u hu => by simp at hu; rcases hu with rfl | rfl <;> rfl) (BlkV.new w4 47 _) (by omega) S5.out.2.2.2 ?_
                    intro v6 w6 hown6 hg6 _
                    obtain ⟨A6, c6, hv6⟩ := own_formN hown6
                    subst hv6
                    have S6 := Lib.hid (S5.out.grown hg6 (fun q hq => (Q2.out.lt q hq).1))
                    have O6 : Hid (AvO w6 (w.heap.size + 2) A6 (K + 1) c6 (L ++ [(x1, x2)])) := Lib.hid (O5.out.more (x1, x2) D dc (by simp only [HX2L.out]; exact D5.out) hg6 rows Q2.out Q1.out Q4.out (by simp only [HX2L.out]; exact hown6) rfl)
                    clear hown6 hg6 Q1 Q2 Q4
                    have k13 : w6.cell? ⟨w.heap.size + 1, 13, none⟩ = some (.slice A1 K c1) := (S6.out.2.2.1.cell 13).trans (sC_at13 _ _ _ HTL.out)
                    have f13 := S6.out.2.2.1.frozen 13
                    refine hH _ _ trivial ?_
                    clear hH H
                    refine wpAnyH_take (i := 19) (v := ?_) rfl (by kernel_rfl) (by kernel_rfl) (by kernel_rfl) (fun _ _ _ h => h) (Or.inl ⟨by rfl, ?_⟩) trivial ?_
                    case refine_2 => (intro wz hz; go_simp; with_reducible rfl)
                    simp only [Act.put, List.getElem_toArray, List.getElem_cons_succ, List.getElem_cons_zero, List.setIfInBounds_toArray, List.set_cons_succ, List.set_cons_zero]
                    refine anyH_one (i := 20) (by kernel_rfl) rfl rfl (fun H hH => ?_)
                    simp only [List.getElem_toArray, List.getElem_cons_succ, List.getElem_cons_zero]
                    go_simp
                    have S7 := Lib.hid (S6.out.put 13 (.slice A6 (K + 1) c6) (sC_set13 ty tx (.slice A1 K c1) (.slice A6 (K + 1) c6) HTL.out))
                    have O7 := Lib.hid (O6.out.only (Only.set w6 (w.heap.size + 1) 13 (.slice A6 (K + 1) c6)) (by omega))
                    generalize w6.setCell ⟨w.heap.size + 1, 13, none⟩ (.slice A6 (K + 1) c6) = w7 at S7 O7 ⊢
                    clear k13 f13 S6 O6
                    refine hH _ _ trivial ?_
                    clear hH H
                    refine wpAnyH_done (by kernel_rfl) ?_ _
                    refine NoPanic.normal ?_
                    go_wp2_with fail
                    go_meet
                    exact ⟨A6, c6, S7, O7⟩
                  · simp only [List.getElem_toArray, List.getElem_cons_succ, List.getElem_cons_zero]
                    refine wp_append_rd _ (.tmp 54) (.tmp 62) rfl Try.underlying22 u8_infoR wd.heap.size (.slice (some ⟨wd.heap.size, 0, none⟩) 0 0) 0 [] rfl (own_empty wd) A2 N d x2 rfl RB.out (by omega) (by simp) ?_
                    intro v4 w4 hown hg hat
                    obtain ⟨hown, hb4⟩ := own_first HX2L.out hown hg
                    obtain ⟨D, dc, hv⟩ := own_formN hown
                    subst hv
                    have S4 := Lib.hid (SD.out.on hb4)
                    have O4 := Lib.hid (OD.out.below hb4)
                    have D4 := Lib.hid (own_moN hown SD.out.2.2.2)
                    clear hown hg hat hb4
                    refine hH _ _ trivial ?_
                    clear hH H
                    refine wpAnyH_take (i := 16) (v := ?_) rfl (by kernel_rfl) (by kernel_rfl) (by kernel_rfl) (fun _ _ _ h => h) (Or.inl ⟨by rfl, ?_⟩) trivial ?_
                    case refine_2 => (intro wz hz; go_simp; with_reducible rfl)
                    simp only [Act.put, List.getElem_toArray, List.getElem_cons_succ, List.getElem_cons_zero, List.setIfInBounds_toArray, List.set_cons_succ, List.set_cons_zero]
                    refine anyH_two (i := 1) (j := 17) (by kernel_rfl) rfl rfl rfl rfl (fun H hH => ?_) (fun H hH => ?_)
                    · simp only [List.getElem_toArray, List.getElem_cons_succ, List.getElem_cons_zero]
                      have kk : w4.cell? ⟨w.heap.size + 1, 13, none⟩ = some (.slice A1 K c1) := (S4.out.2.2.1.cell 13).trans (sC_at13 _ _ _ HTL.out)
                      go_simp
                      clear kk
                      refine hH _ _ trivial ?_
                      clear hH H
                      refine anyH_one (i := 17) (by kernel_rfl) rfl rfl (fun H hH => ?_)
                      simp only [List.getElem_toArray, List.getElem_cons_succ, List.getElem_cons_zero]
                      go_simp
                      have S5 := Lib.hid (S4.out.on ((Below.refl w4.heap.size w4).alloc (Nat.le_refl _) (.cells #[.int .u16 (x1 : Int), .slice D N dc] 47)))
                      have O5 := Lib.hid (O4.out.below ((Below.refl w4.heap.size w4).alloc (Nat.le_refl _) (.cells #[.int .u16 (x1 : Int), .slice D N dc] 47)))
                      have D5 := Lib.hid (own_thN D4.out (grown_of_below ((Below.refl w4.heap.size w4).alloc (Nat.le_refl _) (.cells #[.int .u16 (x1 : Int), .slice D N dc] 47)) none) (fun p hp => by cases hp))
                      refine hH _ _ trivial ?_
                      clear hH H
                      obtain ⟨rows, q1, q2, q3, q4⟩ := O5.out
                      have Q1 := Lib.hid q1
                      have Q2 := Lib.hid q2
                      have Q4 := Lib.hid q4
                      clear q1 q2 q3 q4
                      refine anyH_one (i := 18) (by kernel_rfl) rfl rfl (fun H hH => ?_)
                      simp only [List.getElem_toArray, List.getElem_cons_succ, List.getElem_cons_zero]
                      refine wp_appV (.tmp 49) (.tmp 65) elAttr rfl (w.heap.size + 2) (.slice A1 K c1) K rows.flatten rfl Q2.out w4.heap.size rfl [.int .u16 (x1 : Int), .slice D N dc] rfl (fun u hu => by simp at hu; rcases hu with rfl | rfl <;> rfl) (BlkV.new w4 47 _) (by omega) S5.out.2.2.2 ?_
                      intro v6 w6 hown6 hg6 _
                      obtain ⟨A6, c6, hv6⟩ := own_formN hown6
                      subst hv6
                      have S6 := Lib.hid (S5.out.grown hg6 (fun q hq => (Q2.out.lt q hq).1))
                      have O6 : Hid (AvO w6 (w.heap.size + 2) A6 (K + 1) c6 (L ++ [(x1, x2)])) := Lib.hid (O5.out.more (x1, x2) D dc (by simp only [HX2L.out]; exact D5.out) hg6 rows Q2.out Q1.out Q4.out (by simp only [HX2L.out]; exact hown6) rfl)
                      clear hown6 hg6 Q1 Q2 Q4
                      have k13 : w6.cell? ⟨w.heap.size + 1, 13, none⟩ = some (.slice A1 K c1) := (S6.out.2.2.1.cell 13).trans (sC_at13 _ _ _ HTL.out)
                      have f13 := S6.out.2.2.1.frozen 13
                      refine hH _ _ trivial ?_
                      clear hH H
                      refine wpAnyH_take (i := 19) (v := ?_) rfl (by kernel_rfl) (by kernel_rfl) (by kernel_rfl) (fun _ _ _ h => h) (Or.inl ⟨by rfl, ?_⟩) trivial ?_
                      case refine_2 => (intro wz hz; go_simp; with_reducible rfl)
                      simp only [Act.put, List.getElem_toArray, List.getElem_cons_succ, List.getElem_cons_zero, List.setIfInBounds_toArray, List.set_cons_succ, List.set_cons_zero]
                      refine anyH_one (i := 20) (by kernel_rfl) rfl rfl (fun H hH => ?_)
                      simp only [List.getElem_toArray, List.getElem_cons_succ, List.getElem_cons_zero]
                      go_simp
                      have S7 := Lib.hid (S6.out.put 13 (.slice A6 (K + 1) c6) (sC_set13 ty tx (.slice A1 K c1) (.slice A6 (K + 1) c6) HTL.out))
                      have O7 := Lib.hid (O6.out.only (Only.set w6 (w.heap.size + 1) 13 (.slice A6 (K + 1) c6)) (by omega))
                      generalize w6.setCell ⟨w.heap.size + 1, 13, none⟩ (.slice A6 (K + 1) c6) = w7 at S7 O7 ⊢
                      clear k13 f13 S6 O6
                      refine hH _ _ trivial ?_
                      clear hH H
                      refine wpAnyH_done (by kernel_rfl) ?_ _
                      refine NoPanic.normal ?_
                      go_wp2_with fail
                      go_meet
                      exact ⟨A6, c6, S7, O7⟩
                    · simp only [List.getElem_toArray, List.getElem_cons_succ, List.getElem_cons_zero]
                      go_simp
                      have S5 := Lib.hid (S4.out.on ((Below.refl w4.heap.size w4).alloc (Nat.le_refl _) (.cells #[.int .u16 (x1 : Int), .slice D N dc] 47)))
                      have O5 := Lib.hid (O4.out.below ((Below.refl w4.heap.size w4).alloc (Nat.le_refl _) (.cells #[.int .u16 (x1 : Int), .slice D N dc] 47)))
                      have D5 := Lib.hid (own_thN D4.out (grown_of_below ((Below.refl w4.heap.size w4).alloc (Nat.le_refl _) (.cells #[.int .u16 (x1 : Int), .slice D N dc] 47)) none) (fun p hp => by cases hp))
                      refine hH _ _ trivial ?_
                      clear hH H
                      refine anyH_one (i := 1) (by kernel_rfl) rfl rfl (fun H hH => ?_)
                      simp only [List.getElem_toArray, List.getElem_cons_succ, List.getElem_cons_zero]
                      have kk : (w4.alloc (.cells #[.int .u16 (x1 : Int), .slice D N dc] 47)).cell? ⟨w.heap.size + 1, 13, none⟩ = some (.slice A1 K c1) := (S5.out.2.2.1.cell 13).trans (sC_at13 _ _ _ HTL.out)
                      go_simp
                      clear kk
                      refine hH _ _ trivial ?_
                      clear hH H
                      obtain ⟨rows, q1, q2, q3, q4⟩ := O5.out
                      have Q1 := Lib.hid q1
                      have Q2 := Lib.hid q2
                      have Q4 := Lib.hid q4
                      clear q1 q2 q3 q4
                      refine anyH_one (i := 18) (by kernel_rfl) rfl rfl (fun H hH => ?_)
                      simp only [List.getElem_toArray, List.getElem_cons_succ, List.getElem_cons_zero]
                      refine wp_appV (.tmp 49) (.tmp 65) elAttr rfl (w.heap.size + 2) (.slice A1 K c1) K rows.flatten rfl Q2.out w4.heap.size rfl [.int .u16 (x1 : Int), .slice D N dc] rfl (fun u hu => by simp at hu; rcases hu with rfl | rfl <;> rfl) (BlkV.new w4 47 _) (by omega) S5.out.2.2.2 ?_
                      intro v6 w6 hown6 hg6 _
                      obtain ⟨A6, c6, hv6⟩ := own_formN hown6
                      subst hv6
                      have S6 := Lib.hid (S5.out.grown hg6 (fun q hq => (Q2.out.lt q hq).1))
                      have O6 : Hid (AvO w6 (w.heap.size + 2) A6 (K + 1) c6 (L ++ [(x1, x2)])) := Lib.hid (O5.out.more (x1, x2) D dc (by simp only [HX2L.out]; exact D5.out) hg6 rows Q2.out Q1.out Q4.out (by simp only [HX2L.out]; exact hown6) rfl)
                      clear hown6 hg6 Q1 Q2 Q4
                      have k13 : w6.cell? ⟨w.heap.size + 1, 13, none⟩ = some (.slice A1 K c1) := (S6.out.2.2.1.cell 13).trans (sC_at13 _ _ _ HTL.out)
                      have f13 := S6.out.2.2.1.frozen 13
                      refine hH _ _ trivial ?_
                      clear hH H
                      refine wpAnyH_take (i := 19) (v := ?_) rfl (by kernel_rfl) (by kernel_rfl) (by kernel_rfl) (fun _ _ _ h => h) (Or.inl ⟨by rfl, ?_⟩) trivial ?_
                      case refine_2 => (intro wz hz; go_simp; with_reducible rfl)
                      simp only [Act.put, List.getElem_toArray, List.getElem_cons_succ, List.getElem_cons_zero, List.setIfInBounds_toArray, List.set_cons_succ, List.set_cons_zero]
                      refine anyH_one (i := 20) (by kernel_rfl) rfl rfl (fun H hH => ?_)
                      simp only [List.getElem_toArray, List.getElem_cons_succ, List.getElem_cons_zero]
                      go_simp
                      have S7 := Lib.hid (S6.out.put 13 (.slice A6 (K + 1) c6) (sC_set13 ty tx (.slice A1 K c1) (.slice A6 (K + 1) c6) HTL.out))
                      have O7 := Lib.hid (O6.out.only (Only.set w6 (w.heap.size + 1) 13 (.slice A6 (K + 1) c6)) (by omega))
                      generalize w6.setCell ⟨w.heap.size + 1, 13, none⟩ (.slice A6 (K + 1) c6) = w7 at S7 O7 ⊢
                      clear k13 f13 S6 O6
                      refine hH _ _ trivial ?_
                      clear hH H
                      refine wpAnyH_done (by kernel_rfl) ?_ _
                      refine NoPanic.normal ?_
                      go_wp2_with fail
                      go_meet
                      exact ⟨A6, c6, S7, O7⟩
              · simp only [List.getElem_toArray, List.getElem_cons_succ, List.getElem_cons_zero]
                go_simp
                have SB := Lib.hid (SD.out.on ((Below.refl wd.heap.size wd).alloc (Nat.le_refl _) (.cells #[] 5)))
                have OB := Lib.hid (OD.out.below ((Below.refl wd.heap.size wd).alloc (Nat.le_refl _) (.cells #[] 5)))
                have RB := Lib.hid (R2.out.below ((Below.refl wd.heap.size wd).alloc (Nat.le_refl _) (.cells #[] 5)))
                refine hH _ _ trivial ?_
                clear hH H
                refine anyH_two (i := 1) (j := 4) (by kernel_rfl) rfl rfl rfl rfl (fun H hH => ?_) (fun H hH => ?_)
                · simp only [List.getElem_toArray, List.getElem_cons_succ, List.getElem_cons_zero]
                  have kk : (wd.alloc (.cells #[] 5)).cell? ⟨w.heap.size + 1, 13, none⟩ = some (.slice A1 K c1) := (SB.out.2.2.1.cell 13).trans (sC_at13 _ _ _ HTL.out)
                  go_simp
                  clear kk
                  refine hH _ _ trivial ?_
                  clear hH H
                  refine anyH_one (i := 4) (by kernel_rfl) rfl rfl (fun H hH => ?_)
                  simp only [List.getElem_toArray, List.getElem_cons_succ, List.getElem_cons_zero]
                  go_simp
                  refine (HN1.out _ SB.out.1).mono ?_
                  rintro e wx ⟨rfl, rfl⟩
                  refine hH _ _ trivial ?_
                  clear hH H
                  refine wpAnyH_take (i := 5) (v := ?_) rfl (by kernel_rfl) (by kernel_rfl) (by kernel_rfl) (fun _ _ _ h => h) (Or.inl ⟨by rfl, ?_⟩) trivial ?_
                  case refine_2 => (intro wz hz; go_simp; with_reducible rfl)
                  simp only [Act.put, List.getElem_toArray, List.getElem_cons_succ, List.getElem_cons_zero, List.setIfInBounds_toArray, List.set_cons_succ, List.set_cons_zero]
                  refine anyH_one (i := 15) (by kernel_rfl) rfl rfl (fun H hH => ?_)
                  simp only [List.getElem_toArray, List.getElem_cons_succ, List.getElem_cons_zero]
                  refine wp_append_rd _ (.tmp 54) (.tmp 62) rfl Try.underlying22 u8_infoR wd.heap.size (.slice (some ⟨wd.heap.size, 0, none⟩) 0 0) 0 [] rfl (own_empty wd) A2 N d x2 rfl RB.out (by omega) (by simp) ?_
                  intro v4 w4 hown hg hat
                  obtain ⟨hown, hb4⟩ := own_first HX2L.out hown hg
                  obtain ⟨D, dc, hv⟩ := own_formN hown
                  subst hv
                  have S4 := Lib.hid (SD.out.on hb4)
                  have O4 := Lib.hid (OD.out.below hb4)
                  have D4 := Lib.hid (own_moN hown SD.out.2.2.2)
                  clear hown hg hat hb4
                  refine hH _ _ trivial ?_
                  clear hH H
                  refine wpAnyH_take (i := 16) (v := ?_) rfl (by kernel_rfl) (by kernel_rfl) (by kernel_rfl) (fun _ _ _ h => h) (Or.inl ⟨by rfl, ?_⟩) trivial ?_
                  case refine_2 => (intro wz hz; go_simp; with_reducible rfl)
                  simp only [Act.put, List.getElem_toArray, List.getElem_cons_succ, List.getElem_cons_zero, List.setIfInBounds_toArray, List.set_cons_succ, List.set_cons_zero]
                  refine anyH_one (i := 17) (by kernel_rfl) rfl rfl (fun H hH => ?_)
                  simp only [List.getElem_toArray, List.getElem_cons_succ, List.getElem_cons_zero]
                  go_simp
                  have S5 := Lib.hid (S4.out.on ((Below.refl w4.heap.size w4).alloc (Nat.le_refl _) (.cells #[.int .u16 (x1 : Int), .slice D N dc] 47)))
                  have O5 := Lib.hid (O4.out.below ((Below.refl w4.heap.size w4).alloc (Nat.le_refl _) (.cells #[.int .u16 (x1 : Int), .slice D N dc] 47)))
                  have D5 := Lib.hid (own_thN D4.out (grown_of_below ((Below.refl w4.heap.size w4).alloc (Nat.le_refl _) (.cells #[.int .u16 (x1 : Int), .slice D N dc] 47)) none) (fun p hp => by cases hp))
                  refine hH _ _ trivial ?_
                  clear hH H
                  obtain ⟨rows, q1, q2, q3, q4⟩ := O5.out
                  have Q1 := Lib.hid q1
                  have Q2 := Lib.hid q2
                  have Q4 := Lib.hid q4
                  clear q1 q2 q3 q4
                  refine anyH_one (i := 18) (by kernel_rfl) rfl rfl (fun H hH => ?_)
                  simp only [List.getElem_toArray, List.getElem_cons_succ, List.getElem_cons_zero]
                  refine wp_appV (.tmp 49) (.tmp 65) elAttr rfl (w.heap.size + 2) (.slice A1 K c1) K rows.flatten rfl Q2.out w4.heap.size rfl [.int .u16 (x1 : Int), .slice D N dc] rfl (fun u hu => by simp at hu; rcases hu with rfl | rfl <;> rfl) (BlkV.new w4 47 _) (by omega) S5.out.2.2.2 ?_
                  intro v6 w6 hown6 hg6 _
                  obtain ⟨A6, c6, hv6⟩ := own_formN hown6
                  subst hv6
                  have S6 := Lib.hid (S5.out.grown hg6 (fun q hq => (Q2.out.lt q hq).1))
                  have O6 : Hid (AvO w6 (w.heap.size + 2) A6 (K + 1) c6 (L ++ [(x1, x2)])) := Lib.hid (O5.out.more (x1, x2) D dc (by simp only [HX2L.out]; exact D5.out) hg6 rows Q2.out Q1.out Q4.out (by simp only [HX2L.out]; exact hown6) rfl)
                  clear hown6 hg6 Q1 Q2 Q4
                  have k13 : w6.cell? ⟨w.heap.size + 1, 13, none⟩ = some (.slice A1 K c1) := (S6.out.2.2.1.cell 13).trans (sC_at13 _ _ _ HTL.out)
                  have f13 := S6.out.2.2.1.frozen 13
                  refine hH _ _ trivial ?_
                  clear hH H
                  refine wpAnyH_take (i := 19) (v := ?_) rfl (by kernel_rfl) (by kernel_rfl) (by kernel_rfl) (fun _ _ _ h => h) (Or.inl ⟨by rfl, ?_⟩) trivial ?_
                  case refine_2 => (intro wz hz; go_simp; with_reducible rfl)
                  simp only [Act.put, List.getElem_toArray, List.getElem_cons_succ, List.getElem_cons_zero, List.setIfInBounds_toArray, List.set_cons_succ, List.set_cons_zero]
                  refine anyH_one (i := 20) (by kernel_rfl) rfl rfl (fun H hH => ?_)
                  simp only [List.getElem_toArray, List.getElem_cons_succ, List.getElem_cons_zero]
                  go_simp
                  have S7 := Lib.hid (S6.out.put 13 (.slice A6 (K + 1) c6) (sC_set13 ty tx (.slice A1 K c1) (.slice A6 (K + 1) c6) HTL.out))
                  have O7 := Lib.hid (O6.out.only (Only.set w6 (w.heap.size + 1) 13 (.slice A6 (K + 1) c6)) (by omega))
                  generalize w6.setCell ⟨w.heap.size + 1, 13, none⟩ (.slice A6 (K + 1) c6) = w7 at S7 O7 ⊢
                  clear k13 f13 S6 O6
                  refine hH _ _ trivial ?_
                  clear hH H
                  refine wpAnyH_done (by kernel_rfl) ?_ _
                  refine NoPanic.normal ?_
                  go_wp2_with fail
                  go_meet
                  exact ⟨A6, c6, S7, O7⟩
                · simp only [List.getElem_toArray, List.getElem_cons_succ, List.getElem_cons_zero]
                  go_simp
                  refine (HN1.out _ SB.out.1).mono ?_
                  rintro e wx ⟨rfl, rfl⟩
                  refine hH _ _ trivial ?_
                  clear hH H
                  refine wpAnyH_take (i := 5) (v := ?_) rfl (by kernel_rfl) (by kernel_rfl) (by kernel_rfl) (fun _ _ _ h => h) (Or.inl ⟨by rfl, ?_⟩) trivial ?_
                  case refine_2 => (intro wz hz; go_simp; with_reducible rfl)
                  simp only [Act.put, List.getElem_toArray, List.getElem_cons_succ, List.getElem_cons_zero, List.setIfInBounds_toArray, List.set_cons_succ, List.set_cons_zero]
                  refine anyH_two (i := 1) (j := 15) (by kernel_rfl) rfl rfl rfl rfl (fun H hH => ?_) (fun H hH => ?_)
                  · simp only [List.getElem_toArray, List.getElem_cons_succ, List.getElem_cons_zero]
                    have kk : (wd.alloc (.cells #[] 5)).cell? ⟨w.heap.size + 1, 13, none⟩ = some (.slice A1 K c1) := (SB.out.2.2.1.cell 13).trans (sC_at13 _ _ _ HTL.out)
                    go_simp
                    clear kk
                    refine hH _ _ trivial ?_
                    clear hH H
                    refine anyH_one (i := 15) (by kernel_rfl) rfl rfl (fun H hH => ?_)
                    simp only [List.getElem_toArray, List.getElem_cons_succ, List.getElem_cons_zero]
                    refine wp_append_rd _ (.tmp 54) (.tmp 62) rfl Try.underlying22 u8_infoR wd.heap.size (.slice (some ⟨wd.heap.size, 0, none⟩) 0 0) 0 [] rfl (own_empty wd) A2 N d x2 rfl RB.out (by omega) (by simp) ?_
                    intro v4 w4 hown hg hat
                    obtain ⟨hown, hb4⟩ := own_first HX2L.out hown hg
                    obtain ⟨D, dc, hv⟩ := own_formN hown
                    subst hv
                    have S4 := Lib.hid (SD.out.on hb4)
                    have O4 := Lib.hid (OD.out.below hb4)
                    have D4 := Lib.hid (own_moN hown SD.out.2.2.2)
                    clear hown hg hat hb4
                    refine hH _ _ trivial ?_
                    clear hH H
                    refine wpAnyH_take (i := 16) (v := ?_) rfl (by kernel_rfl) (by kernel_rfl) (by kernel_rfl) (fun _ _ _ h => h) (Or.inl ⟨by rfl, ?_⟩) trivial ?_
                    case refine_2 => (intro wz hz; go_simp; with_reducible rfl)
                    simp only [Act.put, List.getElem_toArray, List.getElem_cons_succ, List.getElem_cons_zero, List.setIfInBounds_toArray, List.set_cons_succ, List.set_cons_zero]
                    refine anyH_one (i := 17) (by kernel_rfl) rfl rfl (fun H hH => ?_)
                    simp only [List.getElem_toArray, List.getElem_cons_succ, List.getElem_cons_zero]
                    go_simp
                    have S5 := Lib.hid (S4.out.on ((Below.refl w4.heap.size w4).alloc (Nat.le_refl _) (.cells #[.int .u16 (x1 : Int), .slice D N dc] 47)))
                    have O5 := Lib.hid (O4.out.below ((Below.refl w4.heap.size w4).alloc (Nat.le_refl _) (.cells #[.int .u16 (x1 : Int), .slice D N dc] 47)))
                    have D5 := Lib.hid (own_thN D4.out (grown_of_below ((Below.refl w4.heap.size w4).alloc (Nat.le_refl _) (.cells #[.int .u16 (x1 : Int), .slice D N dc] 47)) none) (fun p hp => by cases hp))
                    refine hH _ _ trivial ?_
                    clear hH H
                    obtain ⟨rows, q1, q2, q3, q4⟩ := O5.out
                    have Q1 := Lib.hid q1
                    have Q2 := Lib.hid q2
                    have Q4 := Lib.hid q4
                    clear q1 q2 q3 q4
                    refine anyH_one (i := 18) (by kernel_rfl) rfl rfl (fun H hH => ?_)
                    simp only [List.getElem_toArray, List.getElem_cons_succ, List.getElem_cons_zero]
                    refine wp_appV (.tmp 49) (.tmp 65) elAttr rfl (w.heap.size + 2) (.slice A1 K c1) K rows.flatten rfl Q2.out w4.heap.size rfl [.int .u16 (x1 : Int), .slice D N dc] rfl (fun u hu => by simp at hu; rcases hu with rfl | rfl <;> rfl) (BlkV.new w4 47 _) (by omega) S5.out.2.2.2 ?_
                    intro v6 w6 hown6 hg6 _
                    obtain ⟨A6, c6, hv6⟩ := own_formN hown6
                    subst hv6
                    have S6 := Lib.hid (S5.out.grown hg6 (fun q hq => (Q2.out.lt q hq).1))
                    have O6 : Hid (AvO w6 (w.heap.size + 2) A6 (K + 1) c6 (L ++ [(x1, x2)])) := Lib.hid (O5.out.more (x1, x2) D dc (by simp only [HX2L.out]; exact D5.out) hg6 rows Q2.out Q1.out Q4.out (by simp only [HX2L.out]; exact hown6) rfl)
                    clear hown6 hg6 Q1 Q2 Q4
                    have k13 : w6.cell? ⟨w.heap.size + 1, 13, none⟩ = some (.slice A1 K c1) := (S6.out.2.2.1.cell 13).trans (sC_at13 _ _ _ HTL.out)
                    have f13 := S6.out.2.2.1.frozen 13
                    refine hH _ _ trivial ?_
                    clear hH H
                    refine wpAnyH_take (i := 19) (v := ?_) rfl (by kernel_rfl) (by kernel_rfl) (by kernel_rfl) (fun _ _ _ h => h) (Or.inl ⟨by rfl, ?_⟩) trivial ?_
                    case refine_2 => (intro wz hz; go_simp; with_reducible rfl)
                    simp only [Act.put, List.getElem_toArray, List.getElem_cons_succ, List.getElem_cons_zero, List.setIfInBounds_toArray, List.set_cons_succ, List.set_cons_zero]
                    refine anyH_one (i := 20) (by kernel_rfl) rfl rfl (fun H hH => ?_)
                    simp only [List.getElem_toArray, List.getElem_cons_succ, List.getElem_cons_zero]
                    go_simp
                    have S7 := Lib.hid (S6.out.put 13 (.slice A6 (K + 1) c6) (sC_set13 ty tx (.slice A1 K c1) (.slice A6 (K + 1) c6) HTL.out))
                    have O7 := Lib.hid (O6.out.only (Only.set w6 (w.heap.size + 1) 13 (.slice A6 (K + 1) c6)) (by omega))
                    generalize w6.setCell ⟨w.heap.size + 1, 13, none⟩ (.slice A6 (K + 1) c6) = w7 at S7 O7 ⊢
                    clear k13 f13 S6 O6
                    refine hH _ _ trivial ?_
                    clear hH H
                    refine wpAnyH_done (by kernel_rfl) ?_ _
                    refine NoPanic.normal ?_
                    go_wp2_with fail
                    go_meet
                    exact ⟨A6, c6, S7, O7⟩
                  · simp only [List.getElem_toArray, List.getElem_cons_succ, List.getElem_cons_zero]
                    refine wp_append_rd _ (.tmp 54) (.tmp 62) rfl Try.underlying22 u8_infoR wd.heap.size (.slice (some ⟨wd.heap.size, 0, none⟩) 0 0) 0 [] rfl (own_empty wd) A2 N d x2 rfl RB.out (by omega) (by simp) ?_
                    intro v4 w4 hown hg hat
                    obtain ⟨hown, hb4⟩ := own_first HX2L.out hown hg
                    obtain ⟨D, dc, hv⟩ := own_formN hown
                    subst hv
                    have S4 := Lib.hid (SD.out.on hb4)
                    have O4 := Lib.hid (OD.out.below hb4)
                    have D4 := Lib.hid (own_moN hown SD.out.2.2.2)
                    clear hown hg hat hb4
                    refine hH _ _ trivial ?_
                    clear hH H
                    refine wpAnyH_take (i := 16) (v := ?_) rfl (by kernel_rfl) (by kernel_rfl) (by kernel_rfl) (fun _ _ _ h => h) (Or.inl ⟨by rfl, ?_⟩) trivial ?_
                    case refine_2 => (intro wz hz; go_simp; with_reducible rfl)
                    simp only [Act.put, List.getElem_toArray, List.getElem_cons_succ, List.getElem_cons_zero, List.setIfInBounds_toArray, List.set_cons_succ, List.set_cons_zero]
                    refine anyH_two (i := 1) (j := 17) (by kernel_rfl) rfl rfl rfl rfl (fun H hH => ?_) (fun H hH => ?_)
                    · simp only [List.getElem_toArray, List.getElem_cons_succ, List.getElem_cons_zero]
                      have kk : w4.cell? ⟨w.heap.size + 1, 13, none⟩ = some (.slice A1 K c1) := (S4.out.2.2.1.cell 13).trans (sC_at13 _ _ _ HTL.out)
                      go_simp
                      clear kk
                      refine hH _ _ trivial ?_
                      clear hH H
                      refine anyH_one (i := 17) (by kernel_rfl) rfl rfl (fun H hH => ?_)
                      simp only [List.getElem_toArray, List.getElem_cons_succ, List.getElem_cons_zero]
                      go_simp
                      have S5 := Lib.hid (S4.out.on ((Below.refl w4.heap.size w4).alloc (Nat.le_refl _) (.cells #[.int .u16 (x1 : Int), .slice D N dc] 47)))
                      have O5 := Lib.hid (O4.out.below ((Below.refl w4.heap.size w4).alloc (Nat.le_refl _) (.cells #[.int .u16 (x1 : Int), .slice D N dc] 47)))
                      have D5 := Lib.hid (own_thN D4.out (grown_of_below ((Below.refl w4.heap.size w4).alloc (Nat.le_refl _) (.cells #[.int .u16 (x1 : Int), .slice D N dc] 47)) none) (fun p hp => by cases hp))
                      refine hH _ _ trivial ?_
                      clear hH H
                      obtain ⟨rows, q1, q2, q3, q4⟩ := O5.out
                      have Q1 := Lib.hid q1
                      have Q2 := Lib.hid q2
                      have Q4 := Lib.hid q4
                      clear q1 q2 q3 q4
                      refine anyH_one (i := 18) (by kernel_rfl) rfl rfl (fun H hH => ?_)
                      simp only [List.getElem_toArray, List.getElem_cons_succ, List.getElem_cons_zero]
                      refine wp_appV (.tmp 49) (.tmp 65) elAttr rfl (w.heap.size + 2) (.slice A1 K c1) K rows.flatten rfl Q2.out w4.heap.size rfl [.int .u16 (x1 : Int), .slice D N dc] rfl (fun u hu => by simp at hu; rcases hu with rfl | rfl <;> rfl) (BlkV.new w4 47 _) (by omega) S5.out.2.2.2 ?_
                      intro v6 w6 hown6 hg6 _
                      obtain ⟨A6, c6, hv6⟩ := own_formN hown6
                      subst hv6
                      have S6 := Lib.hid (S5.out.grown hg6 (fun q hq => (Q2.out.lt q hq).1))
                      have O6 : Hid (AvO w6 (w.heap.size + 2) A6 (K + 1) c6 (L ++ [(x1, x2)])) := Lib.hid (O5.out.more (x1, x2) D dc (by simp only [HX2L.out]; exact D5.out) hg6 rows Q2.out Q1.out Q4.out (by simp only [HX2L.out]; exact hown6) rfl)
                      clear hown6 hg6 Q1 Q2 Q4
                      have k13 : w6.cell? ⟨w.heap.size + 1, 13, none⟩ = some (.slice A1 K c1) := (S6.out.2.2.1.cell 13).trans (sC_at13 _ _ _ HTL.out)
                      have f13 := S6.out.2.2.1.frozen 13
                      refine hH _ _ trivial ?_
                      clear hH H
                      refine wpAnyH_take (i := 19) (v := ?_) rfl (by kernel_rfl) (by kernel_rfl) (by kernel_rfl) (fun _ _ _ h => h) (Or.inl ⟨by rfl, ?_⟩) trivial ?_
                      case refine_2 => (intro wz hz; go_simp; with_reducible rfl)
                      simp only [Act.put, List.getElem_toArray, List.getElem_cons_succ, List.getElem_cons_zero, List.setIfInBounds_toArray, List.set_cons_succ, List.set_cons_zero]
                      refine anyH_one (i := 20) (by kernel_rfl) rfl rfl (fun H hH => ?_)
                      simp only [List.getElem_toArray, List.getElem_cons_succ, List.getElem_cons_zero]
                      go_simp
                      have S7 := Lib.hid (S6.out.put 13 (.slice A6 (K + 1) c6) (sC_set13 ty tx (.slice A1 K c1) (.slice A6 (K + 1) c6) HTL.out))
                      have O7 := Lib.hid (O6.out.only (Only.set w6 (w.heap.size + 1) 13 (.slice A6 (K + 1) c6)) (by omega))
                      generalize w6.setCell ⟨w.heap.size + 1, 13, none⟩ (.slice A6 (K + 1) c6) = w7 at S7 O7 ⊢
                      clear k13 f13 S6 O6
                      refine hH _ _ trivial ?_
                      clear hH H
                      refine wpAnyH_done (by kernel_rfl) ?_ _
                      refine NoPanic.normal ?_
                      go_wp2_with fail
                      go_meet
                      exact ⟨A6, c6, S7, O7⟩
                    · simp only [List.getElem_toArray, List.getElem_cons_succ, List.getElem_cons_zero]
                      go_simp
                      have S5 := Lib.hid (S4.out.on ((Below.refl w4.heap.size w4).alloc (Nat.le_refl _) (.cells #[.int .u16 (x1 : Int), .slice D N dc] 47)))
                      have O5 := Lib.hid (O4.out.below ((Below.refl w4.heap.size w4).alloc (Nat.le_refl _) (.cells #[.int .u16 (x1 : Int), .slice D N dc] 47)))
                      have D5 := Lib.hid (own_thN D4.out (grown_of_below ((Below.refl w4.heap.size w4).alloc (Nat.le_refl _) (.cells #[.int .u16 (x1 : Int), .slice D N dc] 47)) none) (fun p hp => by cases hp))
                      refine hH _ _ trivial ?_
                      clear hH H
                      refine anyH_one (i := 1) (by kernel_rfl) rfl rfl (fun H hH => ?_)
                      simp only [List.getElem_toArray, List.getElem_cons_succ, List.getElem_cons_zero]
                      have kk : (w4.alloc (.cells #[.int .u16 (x1 : Int), .slice D N dc] 47)).cell? ⟨w.heap.size + 1, 13, none⟩ = some (.slice A1 K c1) := (S5.out.2.2.1.cell 13).trans (sC_at13 _ _ _ HTL.out)
                      go_simp
                      clear kk
                      refine hH _ _ trivial ?_
                      clear hH H
                      obtain ⟨rows, q1, q2, q3, q4⟩ := O5.out
                      have Q1 := Lib.hid q1
                      have Q2 := Lib.hid q2
                      have Q4 := Lib.hid q4
                      clear q1 q2 q3 q4
                      refine anyH_one (i := 18) (by kernel_rfl) rfl rfl (fun H hH => ?_)
                      simp only [List.getElem_toArray, List.getElem_cons_succ, List.getElem_cons_zero]
                      refine wp_appV (.tmp 49) (.tmp 65) elAttr rfl (w.heap.size + 2) (.slice A1 K c1) K rows.flatten rfl Q2.out w4.heap.size rfl [.int .u16 (x1 : Int), .slice D N dc] rfl (fun u hu => by simp at hu; rcases hu with rfl | rfl <;> rfl) (BlkV.new w4 47 _) (by omega) S5.out.2.2.2 ?_
                      intro v6 w6 hown6 hg6 _
                      obtain ⟨A6, c6, hv6⟩ := own_formN hown6
                      subst hv6
                      have S6 := Lib.hid (S5.out.grown hg6 (fun q hq => (Q2.out.lt q hq).1))
                      have O6 : Hid (AvO w6 (w.heap.size + 2) A6 (K + 1) c6 (L ++ [(x1, x2)])) := Lib.hid (O5.out.more (x1, x2) D dc (by simp only [HX2L.out]; exact D5.out) hg6 rows Q2.out Q1.out Q4.out (by simp only [HX2L.out]; exact hown6) rfl)
                      clear hown6 hg6 Q1 Q2 Q4
                      have k13 : w6.cell? ⟨w.heap.size + 1, 13, none⟩ = some (.slice A1 K c1) := (S6.out.2.2.1.cell 13).trans (sC_at13 _ _ _ HTL.out)
                      have f13 := S6.out.2.2.1.frozen 13
                      refine hH _ _ trivial ?_
                      clear hH H
                      refine wpAnyH_take (i := 19) (v := ?_) rfl (by kernel_rfl) (by kernel_rfl) (by kernel_rfl) (fun _ _ _ h => h) (Or.inl ⟨by rfl, ?_⟩) trivial ?_
                      case refine_2 => (intro wz hz; go_simp; with_reducible rfl)
                      simp only [Act.put, List.getElem_toArray, List.getElem_cons_succ, List.getElem_cons_zero, List.setIfInBounds_toArray, List.set_cons_succ, List.set_cons_zero]
                      refine anyH_one (i := 20) (by kernel_rfl) rfl rfl (fun H hH => ?_)
                      simp only [List.getElem_toArray, List.getElem_cons_succ, List.getElem_cons_zero]
                      go_simp
                      have S7 := Lib.hid (S6.out.put 13 (.slice A6 (K + 1) c6) (sC_set13 ty tx (.slice A1 K c1) (.slice A6 (K + 1) c6) HTL.out))
                      have O7 := Lib.hid (O6.out.only (Only.set w6 (w.heap.size + 1) 13 (.slice A6 (K + 1) c6)) (by omega))
                      generalize w6.setCell ⟨w.heap.size + 1, 13, none⟩ (.slice A6 (K + 1) c6) = w7 at S7 O7 ⊢
                      clear k13 f13 S6 O6
                      refine hH _ _ trivial ?_
                      clear hH H
                      refine wpAnyH_done (by kernel_rfl) ?_ _
                      refine NoPanic.normal ?_
                      go_wp2_with fail
                      go_meet
                      exact ⟨A6, c6, S7, O7⟩
            case rest =>
              obtain ⟨A6, c6, S7, O7⟩ := hcut
              have E7 : Hid ((L ++ [(x1, x2)]).length = K + 1 ∧ ∀ x ∈ L ++ [(x1, x2)], x.1 < 65536) := Lib.hid ⟨by rw [List.length_append, HLL.out.1]; rfl, fun x hx => by
                rcases List.mem_append.1 hx with h | h
                · exact HLL.out.2 x h
                · simp at h; subst h; exact HX1B.out⟩
              obtain ⟨Z, hZ⟩ : ∃ Z, Z = (N + 3) / 4 := ⟨_, rfl⟩
              have hZ4 : Z * 4 ≤ N + 3 := by omega
              have hZ5 : N ≤ Z * 4 := by omega
              have eZ1 : IntKind.i64.wrap ((N : Int) + 3) = (N : Int) + 3 := by rw [IntKind.wrap_i64]; omega
              have eZ2 : ((N : Int) + 3) / 4 = (Z : Int) := by omega
              have eZ3 : IntKind.i64.wrap (Z : Int) = (Z : Int) := by rw [IntKind.wrap_i64]; omega
              have eZ4 : IntKind.i64.wrap ((Z : Int) * 4) = (Z : Int) * 4 := by rw [IntKind.wrap_i64]; omega
              have eZ5 : IntKind.i64.wrap ((p : Int) + 4 + (Z : Int) * 4) = (p : Int) + 4 + (Z : Int) * 4 := by rw [IntKind.wrap_i64]; omega
              rw [← hZ] at HX
              clear hZ
              go_wp2
              go_roundw
              case rel => (repeat apply Exists.intro); exact ⟨⟨p + 4 + Z * 4, K + 1, A6, c6, L ++ [(x1, x2)], by omega, by omega, by omega, by go_num, E7, S7, O7, HX⟩, rfl⟩
              case measure => simp [intOf]; omega
        · have hp4n : ¬ p + 4 ≤ bs.length := by rw [HL.out]; omega
          have HEQ : Hid (∀ s, isMsg bs s → s = ⟨ty, tx, L⟩) := Lib.hid (by rw [HTY.out, HTX.out]; exact HP.out.done hp4n)
          obtain ⟨cs, hcs⟩ : ∃ cs, cs = sC ty tx (.slice A1 K c1) := ⟨_, rfl⟩
          have HFIT : Hid ((⟨ty, tx, L⟩ : Stn).fit) := Lib.hid ⟨hty2, HTL.out, HLL.out.2⟩
          have HCS : Hid (cs = sC ty tx (.slice A1 L.length c1)) := Lib.hid (by rw [hcs, HLL.out.1])
          have HRD : Hid (∀ W, Below wr.heap.size wr W → StnRd W cs ⟨ty, tx, L⟩) := Lib.hid (fun W hb => StnRd.below ⟨A1, c1, by rw [hcs]; simp only [HLL.out.1], HO.out.rd⟩ hb)
          have hlen : cs.length = 14 := by rw [hcs, sC_len, HTL.out]
          have hone : ∀ v ∈ cs, v.oneCell' = true := by rw [hcs]; exact sC_one ty tx A1 K c1
          have hLK : L.length ≤ 9223372036854775807 := by rw [HLL.out.1]; omega
          have HWR : Hid (∀ W, Below wr.heap.size wr W → Calls Try.prog 14 #[.agg cs.toArray] W (W12 ⟨ty, tx, L⟩ W)) := Lib.hid (fun W hb => rwrite12_any cs _ W (HRD.out W hb) HFIT.out hLK)
          have HB1 : Hid (BlkV wr (w.heap.size + 1) 28 cs) := Lib.hid (by rw [hcs]; exact HE.out.2.2.1)
          have HB0 := Lib.hid HE.out.2.1
          have HBW := Lib.hid HE.out.1
          have HRB : Hid (∀ W, Below w.heap.size w W → RdS W (some ⟨b, off, none⟩) n c bs) := Lib.hid (fun W hb => HR.out.below hb)
          have HLE := Lib.hid hlen
          have HON := Lib.hid hone
          have HFI : Hid (0 + cs.length ≤ zStn.length) := Lib.hid (by rw [hlen, zS_len]; omega)
          clear hcs hlen hone hLK hp4n hp1 hp2 hK
          by_cases hM : isMsg bs ⟨ty, tx, L⟩
          · have HM := Lib.hid hM
            obtain ⟨hbs, _, hmay⟩ := hM
            have HW2 : Hid (∀ W, Below wr.heap.size wr W → Calls Try.prog 14 #[.agg cs.toArray] W fun e w' => ∃ A' c', e = .returned (.tuple #[.slice A' n c', .bool true]) ∧ RdS w' A' n c' bs ∧ Below W.heap.size W w') := Lib.hid (fun W hb => (HWR.out W hb).mono (by
              rintro e w' ⟨h1, _⟩
              obtain ⟨A', c', N', hN', rfl, h2, h3⟩ := h1 hmay
              rw [← hbs] at hN' h2
              rw [HL.out] at hN'
              subst hN'
              exact ⟨A', c', rfl, h2, h3⟩))
            clear hbs hmay
            go_wp2_with (first
              | (with_reducible refine wpList_ld rfl 28 (.tmp 4) rfl (w.heap.size + 1) 0 rfl cs (HB1.out.range 0 _ (fun i _ => by rw [Nat.zero_add])) (rowStn HLE.out) ?_)
              | (go_at_call 14; ((with_reducible refine (Hid.out HW2 _ (Below.refl _ _)).mono ?_); rintro e w2 ⟨A2, c2, rfl, hr2, hb2⟩; have f2 := Lib.hid (HBW.out.trans (hb2.mono HBW.out.size)); have b2 := Lib.hid (HB1.out.below hb2 HB1.out.lt); have z2 := Lib.hid (HB0.out.below hb2 HB0.out.lt); have o2 := Lib.hid (HO.out.below hb2); have v1 : (convert 22 9 (.slice A2 n c2)).run Try.prog w2 = .ok (.string (txt bs)) w2 := run_conv hr2 _ _ 5 Try.underlying22 Try.underlying5 Try.underlying9; have v2 : (convert 22 9 (.slice (some ⟨b, off, none⟩) n c)).run Try.prog w2 = .ok (.string (txt bs)) w2 := run_conv (HRB.out w2 f2.out) _ _ 5 Try.underlying22 Try.underlying5 Try.underlying9; clear hr2 hb2))
              | (with_reducible refine wpList_ld rfl 28 (.tmp 4) rfl (w.heap.size + 1) 0 rfl cs (b2.out.range 0 _ (fun i _ => by rw [Nat.zero_add])) (rowStn HLE.out) ?_)
              | ((with_reducible refine wpList_st rfl 28 (.tmp 2) (.tmp 90) rfl w.heap.size 0 cs rfl rfl 28 zStn z2.out HFI.out (rowStn HLE.out) HON.out ?_); intro w3 hB3 ho3; rw [splice_all _ _ (by rw [HLE.out]; rfl)] at hB3; have d3 := Lib.hid ho3))
            refine ret_row2 rfl rfl hB3 (rowStn HLE.out) rfl ⟨fun s hs => ?_, fun h => absurd HM.out (h _), f2.out.trans (d3.out.below (by exact Nat.le_refl _))⟩
            obtain rfl := HEQ.out s hs
            exact ⟨cs, rfl, A1, c1, HCS.out, (o2.out.only d3.out (by omega)).rd⟩
          · have HNO : Hid (∀ s, ¬ isMsg bs s) := Lib.hid (fun s hs => hM (by have := HEQ.out s hs; rw [this] at hs; exact hs))
            have HL20 : Hid (¬ bs.length < 20) := Lib.hid (by rw [HL.out]; omega)
            by_cases hmay : mayS ⟨ty, tx, L⟩
            · obtain ⟨T, hT⟩ : ∃ T, T = wrS ⟨ty, tx, L⟩ := ⟨_, rfl⟩
              obtain ⟨N, hN⟩ : ∃ N, N = T.length := ⟨_, rfl⟩
              have hne0 : T ≠ bs := fun h => hM ⟨by rw [← hT]; exact h.symm, HFIT.out, hmay⟩
              have hne : ((txt T).toList == (txt bs).toList) = false := by rw [txt_toList, txt_toList]; exact beq_eq_false_iff_ne.2 hne0
              have HW2 : Hid (∀ W, Below wr.heap.size wr W → Calls Try.prog 14 #[.agg cs.toArray] W fun e w' => ∃ A' c', e = .returned (.tuple #[.slice A' N c', .bool true]) ∧ RdS w' A' N c' T ∧ Below W.heap.size W w') := Lib.hid (fun W hb => (HWR.out W hb).mono (by
                rintro e w' ⟨h1, _⟩
                obtain ⟨A', c', N', hN', rfl, h2, h3⟩ := h1 hmay
                rw [← hT] at hN' h2
                rw [← hN] at hN'
                subst hN'
                exact ⟨A', c', rfl, h2, h3⟩))
              clear hT hN hM hmay hne0
              go_wp2_with (first
                | (with_reducible refine wpList_ld rfl 28 (.tmp 4) rfl (w.heap.size + 1) 0 rfl cs (HB1.out.range 0 _ (fun i _ => by rw [Nat.zero_add])) (rowStn HLE.out) ?_)
                | (go_at_call 14; ((with_reducible refine (Hid.out HW2 _ (Below.refl _ _)).mono ?_); rintro e w2 ⟨A2, c2, rfl, hr2, hb2⟩; have f2 := Lib.hid (HBW.out.trans (hb2.mono HBW.out.size)); have z2 := Lib.hid (HB0.out.below hb2 HB0.out.lt); have v1 : (convert 22 9 (.slice A2 N c2)).run Try.prog w2 = .ok (.string (txt T)) w2 := run_conv hr2 _ _ 5 Try.underlying22 Try.underlying5 Try.underlying9; have v2 : (convert 22 9 (.slice (some ⟨b, off, none⟩) n c)).run Try.prog w2 = .ok (.string (txt bs)) w2 := run_conv (HRB.out w2 f2.out) _ _ 5 Try.underlying22 Try.underlying5 Try.underlying9; clear hr2 hb2))
                | ((with_reducible refine wpList_st rfl 28 (.tmp 2) (.tmp 89) rfl w.heap.size 0 zStn rfl rfl 28 zStn z2.out fitS (rowStn zS_len) zS_one ?_); intro w3 hB3 ho3; rw [splice_all _ _ (by rfl)] at hB3; have d3 := Lib.hid ho3))
              exact ret_row2 rfl rfl hB3 (rowStn zS_len) rfl (R12.form HL20.out HNO.out (f2.out.trans (d3.out.below (by exact Nat.le_refl _))))
            · have HW2 : Hid (∀ W, Below wr.heap.size wr W → Calls Try.prog 14 #[.agg cs.toArray] W fun e w' => e = .returned (.tuple #[.slice none 0 0, .bool false]) ∧ Below W.heap.size W w') := Lib.hid (fun W hb => (HWR.out W hb).mono (fun e w' h => h.2 hmay))
              clear hM hmay
              go_wp2_with (first
                | (with_reducible refine wpList_ld rfl 28 (.tmp 4) rfl (w.heap.size + 1) 0 rfl cs (HB1.out.range 0 _ (fun i _ => by rw [Nat.zero_add])) (rowStn HLE.out) ?_)
                | (go_at_call 14; ((with_reducible refine (Hid.out HW2 _ (Below.refl _ _)).mono ?_); rintro e w2 ⟨rfl, hb2⟩; have f2 := Lib.hid (HBW.out.trans (hb2.mono HBW.out.size)); have z2 := Lib.hid (HB0.out.below hb2 HB0.out.lt); clear hb2))
                | ((with_reducible refine wpList_st rfl 28 (.tmp 2) (.tmp 89) rfl w.heap.size 0 zStn rfl rfl 28 zStn z2.out fitS (rowStn zS_len) zS_one ?_); intro w3 hB3 ho3; rw [splice_all _ _ (by rfl)] at hB3; have d3 := Lib.hid ho3))
              exact ret_row2 rfl rfl hB3 (rowStn zS_len) rfl (R12.form HL20.out HNO.out (f2.out.trans (d3.out.below (by exact Nat.le_refl _))))
theorem rread12_any (A : Option Addr) (n c : Nat) (bs : List UInt8) (w : World) (hr : RdS w A n c bs) (hn : n ≤ 100000) :
    Calls Try.prog 8 #[.slice A n c] w (R12 bs w) := by
  by_cases h20 : n < 20
  · exact rread12_short A n c bs w hr h20
  · exact rread12_long A n c bs w hr (by omega) hn
end Go.Proofs.Ythoiebjndchobaa
