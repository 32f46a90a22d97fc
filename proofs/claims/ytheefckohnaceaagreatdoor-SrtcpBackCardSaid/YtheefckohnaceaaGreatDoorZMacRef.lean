/- Several texts in one: plain words and walks. No statement is proved here. -/
import Derived.Test.YtheefckohnaceaaGreatDoorZM6
import Derived.Test.YtheefckohnaceaaGreatDoorZShaRef
import Derived.Deep.DeepCutAuto
namespace Go.Proofs.YtheefckohnaceaaGreatDoor
open Go.RowKit
set_option linter.unusedVariables false

def Apart (v v' : Value) : Prop := ∀ g, v.ownBlock = some g → v'.ownBlock ≠ some g
theorem Apart.right {v v' : Value} (h : Apart v v') : v'.ownBlock = none ∨ v'.ownBlock ≠ v.ownBlock := by
 cases hv : v'.ownBlock with
 | none => exact .inl rfl
 | some g => exact .inr fun e => h g e.symm hv
theorem Apart.left {v v' : Value} (h : Apart v v') : v.ownBlock = none ∨ v.ownBlock ≠ v'.ownBlock := by
 cases hv : v.ownBlock with
 | none => exact .inl rfl
 | some g => exact .inr fun e => h g hv e.symm
theorem Apart.turnL {v v2 v' : Value} {S B : Nat} (h : Apart v v') (hat : v2.ownBlock = v.ownBlock ∨ v2.ownBlock = some S) (hlt : ∀ g, v'.ownBlock = some g → B ≤ g ∧ g < S) : Apart v2 v' := by
 intro g hg e
 rcases hat with hat | hat
 · exact h g (hat ▸ hg) e
 · rw [hat] at hg
   injection hg with hg
   have := (hlt g e).2
   omega
theorem Apart.turnR {v v2 v' : Value} {S B : Nat} (h : Apart v' v) (hat : v2.ownBlock = v.ownBlock ∨ v2.ownBlock = some S) (hlt : ∀ g, v'.ownBlock = some g → B ≤ g ∧ g < S) : Apart v' v2 := by
 intro g hg e
 rcases hat with hat | hat
 · exact h g hg (hat ▸ e)
 · rw [hat] at e
   injection e with e
   have := (hlt g hg).2
   omega
theorem off_base {g o n p : Nat} (h : g + 1 ≤ p) : OffN (some ⟨g, o, none⟩) n p := fun _ => off_ne (by omega)

set_option maxRecDepth 100000 in
set_option maxHeartbeats 1000000 in
theorem rfull_any (A : Option Addr) (nb c : Nat) (key : List UInt8) (B : Option Addr) (nm cm : Nat) (m : List UInt8) (w : World) (hr : RdS w A nb c key) (hrm : RdS w B nm cm m) (hle : nb ≤ 100000) (hlm : nm ≤ 100000) :
 Calls Tryz.prog 27 #[.slice A nb c, .slice B nm cm] w fun e w' => ∃ A' c', e = .returned (.slice A' 20 c') ∧ RdS w' A' 20 c' (macFull key m) ∧ Below w.heap.size w w' := by
 have hz2 := zero20b
 have hl := hr.len
 obtain ⟨F, hF⟩ : ∃ F, F = macFull key m := ⟨_, rfl⟩
 rw [← hF]
 have HF := Lib.hid hF
 clear hF
 obtain ⟨S, hS⟩ : ∃ S, S = keyS key := ⟨_, rfl⟩
 have hSl : S.length ≤ 64 := by rw [hS]; exact keyS_le key
 obtain ⟨L, hL⟩ : ∃ L, L = S.length := ⟨_, rfl⟩
 rw [← hL] at hSl
 have HL := Lib.hid hL
 have HS := Lib.hid hS
 have HK := Lib.hid hl
 clear hS hL hl
 go_enter Tryz.func27, Tryz.ntmps27
 go_upto_if 17 with (at_builtin; refine wpList_append_rd _ rfl (.tmp 12) (.tmp 13) rfl Tryz.underlying32 u8_infoR w.heap.size (.slice (some ⟨w.heap.size, 0, none⟩) 0 0) 0 [] rfl (own_empty w) A nb c key rfl (hr.below ((Below.refl _ _).alloc (Nat.le_refl _) _)) (by omega) (by simp) ?_; intro v1 w1 hown1 hg1 hat1; obtain ⟨ho, hb⟩ := own_first HK.out hown1 hg1; obtain ⟨A1, c1, hv1⟩ := own_form ho; subst hv1; clear hown1 hg1 hat1; have hi := hle; have hsz1 := hb.size)
 go_cut [5, 6] (fun v p wx => ∃ (A' : Option Addr) (c' : Nat), v = .slice A' L c' ∧ wx.ownsRow w.heap.size 5 1 (.slice A' L c') L (cells S) ∧ Below w.heap.size w wx)
 case first =>
  by_cases h64 : 64 < nb
  · have hd : decide ((64 : Int) < (nb : Int)) = true := by simp; omega
    have hSD : S = shaSum key := by rw [HS.out]; exact keyS_long (by rw [HK.out]; exact h64)
    have hL20 : L = 20 := by rw [HL.out, hSD]; exact shaSum_len _
    have hsum := rsum_any A nb c key w1 (hr.below hb) (by omega)
    rw [← hSD] at hsum
    have HSL : Hid (S.length = 20) := Lib.hid (by rw [← HL.out]; exact hL20)
    have HSUM := Lib.hid hsum
    clear hsum hSD
    go_wp2_with (first
     | (go_at_call 45; ((with_reducible refine (Hid.out HSUM).mono ?_); rintro e w2 ⟨rfl, hb2⟩; have hb2w := hb.trans (hb2.mono hsz1); have hb2a := hb2w.alloc hb2w.size (.cells (cells Z20).toArray 40); have hI2 := BlkV.new_at w2 w2.heap.size 40 (cells Z20) _ rfl rfl))
     | ((with_reducible refine wpList_st rfl 40 (.tmp 6) (.tmp 19) rfl w2.heap.size 0 (cells S) rfl rfl 40 _ hI2 (by rw [length_cells, length_cells, HSL.out, Z20_len]; omega) (row20 (by rw [length_cells]; exact HSL.out)) (cells_one _) ?_); intro w3 hB3 ho3; rw [splice_all _ _ (by rw [length_cells, length_cells, HSL.out, Z20_len])] at hB3; have hb3 := hb2a.trans (ho3.below hb2w.size); have hrd3 := (show Blk w3 w2.heap.size 40 S from hB3).rd (n := 20) (c := 20) HSL.out (Nat.le_refl _) (by simp [maxLen]))
     | (at_builtin; refine wpList_append_rd _ rfl (.tmp 20) (.tmp 21) rfl Tryz.underlying32 u8_infoR w3.heap.size (.slice (some ⟨w3.heap.size, 0, none⟩) 0 0) 0 [] rfl (own_empty w3) (some ⟨w2.heap.size, 0, none⟩) 20 20 S rfl (hrd3.below ((Below.refl _ _).alloc (Nat.le_refl _) _)) (by omega) (by simp) ?_; intro v4 w4 hown4 hg4 hat4; obtain ⟨ho4, hb4⟩ := own_first HSL.out hown4 hg4; obtain ⟨A4, c4, hv4⟩ := own_form ho4; subst hv4; have hb4w := hb3.trans (hb4.mono hb3.size)))
    go_meet
    exact ⟨A4, c4, by rw [hL20], by rw [hL20]; exact own_monoH ho4 hb3.size, hb4w⟩
  · have hd : decide ((64 : Int) < (nb : Int)) = false := by simp; omega
    have hSK : S = key := by rw [HS.out]; exact keyS_short (by rw [HK.out]; exact h64)
    have hLn : L = nb := by rw [HL.out, hSK]; exact HK.out
    go_wp2_with fail
    go_meet
    exact ⟨A1, c1, by rw [hLn], by rw [hLn, hSK]; exact ho, hb⟩
 case rest =>
  obtain ⟨A2, c2, rfl, ho2, hb2⟩ := hcut
  clear ho hb hsz1 hi hr
  go_wp2_with fail
  go_loopw [5] (fun v wr => ∃ (j M : Nat) (A' : Option Addr) (c' : Nat), j ≤ 64 - L ∧ Hid (M = L + j) ∧ v = .slice A' M c' ∧ wr.ownsRow w.heap.size 5 1 (.slice A' M c') M (cells (S ++ List.replicate j 0)) ∧ Below w.heap.size w wr) (fun v _ => 64 - lenOf v)
  case atStart => exact ⟨0, L, A2, c2, by omega, Lib.hid rfl, rfl, by simpa using ho2, hb2⟩
  case round =>
   clear ho2 hb2
   obtain ⟨j, M, A', c', hj, hM, rfl, hor, hbr⟩ := hrel
   by_cases hlt : M < 64
   · have hMi : (M : Int) < 64 := by omega
     go_wp2_with (at_builtin; refine wpList_append_rd _ rfl (.tmp 26) (.tmp 27) rfl Tryz.underlying32 u8_infoR w.heap.size (.slice A' M c') M (S ++ List.replicate j 0) rfl (hor.alloc _) (some ⟨wr.heap.size, 0, none⟩) 1 1 [0] rfl (rd_byte wr 0 0 rfl) (by omega) (by have := hbr.size; simp; omega) ?_; intro v2 w2 hown2 hg2 hat2)
     obtain ⟨A3, c3, hv2⟩ := own_form hown2
     have hltb := hor.lt
     have hb2 := (hbr.alloc hbr.size (.cells #[.int .u8 0] 5)).grown hg2 (Nat.le_trans hbr.size (by simp)) (fun q hq => by have := (hltb q hq).1; omega)
     have hown3 : w2.ownsRow w.heap.size 5 1 (.slice A3 (M + 1) c3) (M + 1) (cells (S ++ List.replicate (j + 1) 0)) := by
      rw [hv2, List.append_assoc, ← List.replicate_succ'] at hown2
      exact hown2
     have hM2 : Hid (M + 1 = L + (j + 1)) := Lib.hid (by have := hM.out; omega)
     have hj2 : j + 1 ≤ 64 - L := by have := hM.out; omega
     rw [hv2]
     go_roundw
     case rel => exact ⟨j + 1, M + 1, A3, c3, hj2, hM2, rfl, hown3, hb2⟩
     case measure => simp [lenOf]; omega
   · have hjj : j = 64 - L := by have := hM.out; omega
     obtain rfl : M = 64 := by have := hM.out; omega
     have hKB : S ++ List.replicate j 0 = keyB key := by rw [hjj, HL.out, HS.out]; rfl
     rw [hKB] at hor
     obtain ⟨K, hKK⟩ : ∃ K, K = keyB key := ⟨_, rfl⟩
     have hKl : K.length = 64 := by rw [hKK]; exact keyB_len key
     rw [← hKK] at hor
     obtain ⟨gk, ck, hv, hgk, hgks⟩ := hor.form (by omega)
     injection hv with hv1 _ hv3
     subst hv1; subst hv3
     have hrk := RdS.of_own hor
     have HKL := Lib.hid hKl
     have HKK := Lib.hid hKK
     have hrm0 := hrm
     clear hKl hKK hKB hjj hor hlt hj hM
     go_wp2_with fail
     go_loopw [7, 8, 9] (fun vi vo i wx => ∃ (k : Nat) (Ai : Option Addr) (ci : Nat) (Ao : Option Addr) (co : Nat), k ≤ 64 ∧ i = .int .i64 k ∧ vi = .slice Ai k ci ∧ vo = .slice Ao k co ∧ wx.ownsRow (gk + 1) 5 1 (.slice Ai k ci) k (cells (xorB 54 (K.take k))) ∧ wx.ownsRow (gk + 1) 5 1 (.slice Ao k co) k (cells (xorB 92 (K.take k))) ∧
      Apart (.slice Ai k ci) (.slice Ao k co) ∧ RdS wx (some ⟨gk, 0, none⟩) 64 c' K ∧ Below w.heap.size w wx ∧ gk < wx.heap.size) (fun _ _ i _ => 64 - (intOf i).toNat)
     case atStart => exact ⟨0, none, 0, none, 0, by omega, rfl, rfl, rfl, World.ownsRow_nil _ _ _ _, World.ownsRow_nil _ _ _ _, fun g hg => by simp [Value.ownBlock] at hg, hrk, hbr, hgks⟩
     case round =>
      clear hrk hbr hgks
      obtain ⟨k, Ai, ci, Ao, co, hk, rfl, rfl, rfl, hi, ho, hio, hrk, hbx, hgx⟩ := hrel
      by_cases hlt : k < 64
      · obtain ⟨y, hy⟩ : ∃ y : UInt8, y = K.getD k 0 := ⟨_, rfl⟩
        have hx1 := xr_byte y 54
        have hx2 := xr_byte y 92
        have et1 := xorB_take 54 K k (by rw [HKL.out]; exact hlt)
        have et2 := xorB_take 92 K k (by rw [HKL.out]; exact hlt)
        rw [← hy] at et1 et2
        have cellOf : ∀ wz, RdS wz (some ⟨gk, 0, none⟩) 64 c' K → wz.cell? ⟨gk, k, none⟩ = some (.int .u8 (y.toNat : Int)) := by
         intro wz hz
         obtain ⟨b, off, hA, _, hc⟩ := hz.2.2.2.2 (by omega)
         injection hA with hA
         injection hA with hA1 hA2
         subst hA1; subst hA2
         have := hc k hlt
         rw [Nat.zero_add, ← hy] at this
         exact this
        have hc1 := cellOf _ hrk
        obtain ⟨z, hz⟩ : ∃ z : Int, z = (y.toNat : Int) := ⟨_, rfl⟩
        have CO := Lib.hid cellOf
        have hltI := hi.lt
        have hltO := ho.lt
        have HLI := Lib.hid hltI
        have HLO := Lib.hid hltO
        have HX1 : Hid (bits BinOp.xor IntKind.u8 z 54 = ((y ^^^ 54).toNat : Int)) := Lib.hid (by rw [hz]; exact hx1)
        have HX2 : Hid (bits BinOp.xor IntKind.u8 z 92 = ((y ^^^ 92).toNat : Int)) := Lib.hid (by rw [hz]; exact hx2)
        have ET1 := Lib.hid et1
        have ET2 := Lib.hid et2
        have HIO := Lib.hid hio
        have HZ := Lib.hid hz
        rw [← hz] at hc1
        have hsx := hbx.size
        clear hy hx1 hx2 et1 et2 cellOf hltI hltO hio hz hrm hrm0
        go_wp2_with (first
         | (at_builtin; refine wpList_append_rd _ rfl (.tmp 33) (.tmp 39) rfl Tryz.underlying32 u8_infoR (gk + 1) (.slice Ai k ci) k (xorB 54 (K.take k)) rfl (hi.alloc _) (some ⟨wr.heap.size, 0, none⟩) 1 1 [y ^^^ 54] rfl (rd_byte wr (y ^^^ 54) _ HX1.out) (by omega) (by simp; omega) ?_; intro v2 w2 hi2 hg2 hat2; obtain ⟨Ai2, ci2, hv2⟩ := own_form hi2; subst hv2; have ho2 := (ho.alloc (.cells #[.int .u8 (bits BinOp.xor IntKind.u8 z 54)] 5)).kept hg2 (Apart.right HIO.out); have hrk2 := (hrk.below ((Below.refl _ _).alloc (Nat.le_refl _) (.cells #[.int .u8 (bits BinOp.xor IntKind.u8 z 54)] 5))).keep hg2 (fun q hq => off_base (HLI.out q hq).1); have hb2 := (hbx.alloc hsx (.cells #[.int .u8 (bits BinOp.xor IntKind.u8 z 54)] 5)).grown hg2 (by simp; omega) (fun q hq => by have := (HLI.out q hq).1; omega); have hsz2 := hg2.size; simp only [World.size_alloc] at hsz2 hat2; have hap2 := HIO.out.turnL hat2 (fun g hg => ⟨(HLO.out g hg).1, by have := (HLO.out g hg).2; omega⟩); have HAP2 := Lib.hid hap2; have hc2 := CO.out w2 hrk2; rw [← HZ.out] at hc2; have hltO2 := ho2.lt; have HLO2 := Lib.hid hltO2; have hltI2 := hi2.lt; have HLI2 := Lib.hid hltI2; clear hltO2 hltI2 hap2 hat2 hc1)
         | (at_builtin; refine wpList_append_rd _ rfl (.tmp 41) (.tmp 47) rfl Tryz.underlying32 u8_infoR (gk + 1) (.slice Ao k co) k (xorB 92 (K.take k)) rfl (ho2.alloc _) (some ⟨w2.heap.size, 0, none⟩) 1 1 [y ^^^ 92] rfl (rd_byte w2 (y ^^^ 92) _ HX2.out) (by omega) (by simp; omega) ?_; intro v3 w3 ho3 hg3 hat3; obtain ⟨Ao3, co3, hv3⟩ := own_form ho3; subst hv3; have hi3 := (hi2.alloc (.cells #[.int .u8 (bits BinOp.xor IntKind.u8 z 92)] 5)).kept hg3 (Apart.left HAP2.out); have hrk3 := (hrk2.below ((Below.refl _ _).alloc (Nat.le_refl _) (.cells #[.int .u8 (bits BinOp.xor IntKind.u8 z 92)] 5))).keep hg3 (fun q hq => off_base (HLO2.out q hq).1); have hb3 := (hb2.alloc hb2.size (.cells #[.int .u8 (bits BinOp.xor IntKind.u8 z 92)] 5)).grown hg3 (by have := hb2.size; simp; omega) (fun q hq => by have := (HLO2.out q hq).1; omega); have hsz3 := hg3.size; simp only [World.size_alloc] at hsz3 hat3; have hap3 := HAP2.out.turnR hat3 (fun g hg => ⟨(HLI2.out g hg).1, by have := (HLI2.out g hg).2; omega⟩)))
        rw [← ET1.out] at hi3
        rw [← ET2.out] at ho3
        have hgx3 : gk < w3.heap.size := by omega
        go_roundw
        case rel => exact ⟨k + 1, Ai2, ci2, Ao3, co3, by omega, by go_num, rfl, rfl, hi3, ho3, hap3, hrk3, hb3, hgx3⟩
        case measure => simp [intOf]; omega
      · obtain rfl : k = 64 := by omega
        have hall : K.take 64 = K := List.take_of_length_le (by rw [HKL.out]; exact Nat.le_refl _)
        rw [hall] at hi ho
        obtain ⟨I, hI⟩ : ∃ I, I = inSum key m := ⟨_, rfl⟩
        have hF := HF.out
        have hIl : I.length = 20 := by rw [hI]; exact inSum_len _ _
        have hFl : F.length = 20 := by rw [hF]; exact macFull_len _ _
        have hs1 : ∀ (A5 : Option Addr) (c5 : Nat) (w5 : World), RdS w5 A5 (64 + nm) c5 (xorB 54 K ++ m) → Calls Tryz.prog 45 #[.slice A5 (64 + nm) c5] w5 fun e w' => e = .returned (.agg (cells I).toArray) ∧ Below w5.heap.size w5 w' := by
         intro A5 c5 w5 h
         rw [hI, inSum, ← HKK.out]
         exact rsum_any A5 (64 + nm) c5 _ w5 h (by omega)
        have hs2 : ∀ (A5 : Option Addr) (c5 : Nat) (w5 : World), RdS w5 A5 84 c5 (xorB 92 K ++ I) → Calls Tryz.prog 45 #[.slice A5 84 c5] w5 fun e w' => e = .returned (.agg (cells F).toArray) ∧ Below w5.heap.size w5 w' := by
         intro A5 c5 w5 h
         rw [hF, macFull, ← HKK.out, ← hI]
         exact rsum_any A5 84 c5 _ w5 h (by omega)
        have HIL := Lib.hid hIl
        have HFL := Lib.hid hFl
        have HS1 := Lib.hid hs1
        have HS2 := Lib.hid hs2
        have HIO := Lib.hid hio
        have hltI := hi.lt
        have HLI := Lib.hid hltI
        have hltO := ho.lt
        have HLO := Lib.hid hltO
        have hrmx := hrm.below hbx
        have hsx := hbx.size
        clear hI hF hIl hFl hs1 hs2 hio hltI hltO hrk hall hrm hrm0
        go_wp2_with (first
         | (at_builtin; refine wpList_append_rd _ rfl (.tmp 49) (.tmp 50) rfl Tryz.underlying32 u8_infoR (gk + 1) (.slice Ai 64 ci) 64 (xorB 54 K) rfl hi B nm cm m rfl hrmx (by omega) (by omega) ?_; intro v2 w2 hi2 hg2 hat2; obtain ⟨Ai2, ci2, hv2⟩ := own_form hi2; subst hv2; have ho2 := ho.kept hg2 (Apart.right HIO.out); have hb2 := hbx.grown hg2 hsx (fun q hq => by have := (HLI.out q hq).1; omega); have hrd2 := RdS.of_own hi2)
         | (go_at_call 45; ((with_reducible refine (HS1.out Ai2 ci2 w2 hrd2).mono ?_); rintro e w3 ⟨rfl, hb3⟩; have ho3 := (ho2.kept (grown_of_below hb3 none) (by cases hq : (Value.slice Ao 64 co).ownBlock <;> simp)).alloc (.cells (cells Z20).toArray 40); have hb3w := hb2.trans (hb3.mono hb2.size); have hb3a := hb3w.alloc hb3w.size (.cells (cells Z20).toArray 40); have hI3 := BlkV.new_at w3 w3.heap.size 40 (cells Z20) _ rfl rfl; have hlt3 : ∀ g, (Value.slice Ao 64 co).ownBlock = some g → g < w3.heap.size := (fun g hg => by have h1 := (HLO.out g hg).2; have h2 := hg2.size; have h3 := hb3.size; omega)))
         | ((with_reducible refine wpList_st rfl 40 (.tmp 10) (.tmp 52) rfl w3.heap.size 0 (cells I) rfl rfl 40 _ hI3 (by rw [length_cells, length_cells, HIL.out, Z20_len]; omega) (row20 (by rw [length_cells]; exact HIL.out)) (cells_one _) ?_); intro w4 hB4 ho4; rw [splice_all _ _ (by rw [length_cells, length_cells, HIL.out, Z20_len])] at hB4; have hb4 := hb3a.trans (ho4.below hb3w.size); have hrd4 := (show Blk w4 w3.heap.size 40 I from hB4).rd (n := 20) (c := 20) HIL.out (Nat.le_refl _) (by simp [maxLen]); have hro4 := ho3.kept ho4.grown (Or.inr (fun e => by have := hlt3 _ e; omega)); have hsz4 := hro4.lt; have HLT4 := Lib.hid hsz4; clear hsz4)
         | (at_builtin; refine wpList_append_rd _ rfl (.tmp 53) (.tmp 54) rfl Tryz.underlying32 u8_infoR (gk + 1) (.slice Ao 64 co) 64 (xorB 92 K) rfl hro4 (some ⟨w3.heap.size, 0, none⟩) 20 20 I rfl hrd4 (by omega) (by have h1 := hb4.size; have h2 := ho4.size; simp only [World.size_alloc] at h2; have h3 := hg2.size; have h4 := hb3.size; omega) ?_; intro v5 w5 ho5 hg5 hat5; obtain ⟨Ao5, co5, hv5⟩ := own_form ho5; subst hv5; have hb5 := hb4.grown hg5 hb4.size (fun q hq => by have := (HLT4.out q hq).1; omega); have hrd5 := RdS.of_own ho5)
         | (go_at_call 45; ((with_reducible refine (HS2.out Ao5 co5 w5 hrd5).mono ?_); rintro e w6 ⟨rfl, hb6⟩; have hb6w := hb5.trans (hb6.mono hb5.size); have hb6a := hb6w.alloc hb6w.size (.cells (cells Z20).toArray 40); have hI6 := BlkV.new_at w6 w6.heap.size 40 (cells Z20) _ rfl rfl))
         | ((with_reducible refine wpList_st rfl 40 (.tmp 11) (.tmp 56) rfl w6.heap.size 0 (cells F) rfl rfl 40 _ hI6 (by rw [length_cells, length_cells, HFL.out, Z20_len]; omega) (row20 (by rw [length_cells]; exact HFL.out)) (cells_one _) ?_); intro w7 hB7 ho7; rw [splice_all _ _ (by rw [length_cells, length_cells, HFL.out, Z20_len])] at hB7; have hb7 := hb6a.trans (ho7.below hb6w.size); have hrd7 := (show Blk w7 w6.heap.size 40 F from hB7).rd (n := 20) (c := 20) HFL.out (Nat.le_refl _) (by simp [maxLen]))
         | (at_builtin; refine wpList_append_rd _ rfl (.tmp 57) (.tmp 58) rfl Tryz.underlying32 u8_infoR w7.heap.size (.slice (some ⟨w7.heap.size, 0, none⟩) 0 0) 0 [] rfl (own_empty w7) (some ⟨w6.heap.size, 0, none⟩) 20 20 F rfl (hrd7.below ((Below.refl _ _).alloc (Nat.le_refl _) _)) (by omega) (by simp) ?_; intro v8 w8 hown8 hg8 hat8; obtain ⟨ho8, hb8⟩ := own_first HFL.out hown8 hg8; obtain ⟨A8, c8, hv8⟩ := own_form ho8; subst hv8; have hb8w := hb7.trans (hb8.mono hb7.size)))
        go_ret
        exact ⟨A8, c8, rfl, RdS.of_own ho8, hb8w⟩

set_option maxHeartbeats 1000000 in
theorem rtag_any (A : Option Addr) (nb c : Nat) (key : List UInt8) (n : Int) (B : Option Addr) (nm cm : Nat) (m : List UInt8) (w : World) (hr : RdS w A nb c key) (hrm : RdS w B nm cm m) (hle : nb ≤ 100000) (hlm : nm ≤ 100000)
 (hn : -9223372036854775808 ≤ n ∧ n ≤ 9223372036854775807) :
 Calls Tryz.prog 12 #[.slice A nb c, .int .i64 n, .slice B nm cm] w fun e w' => ∃ A' c', e = .returned (.slice A' (cutN n) c') ∧ RdS w' A' (cutN n) c' (tagB n (macFull key m)) ∧ Below w.heap.size w w' := by
 have hfu := rfull_any A nb c key B nm cm m w hr hrm hle hlm
 obtain ⟨F, hF⟩ : ∃ F, F = macFull key m := ⟨_, rfl⟩
 have hFl : F.length = 20 := by rw [hF]; exact macFull_len _ _
 rw [← hF] at hfu ⊢
 have HFU := Lib.hid hfu
 have HF := Lib.hid hFl
 clear hfu hF hFl
 by_cases h1 : n < 1
 · rw [cutN_low h1]
   have e : tagB n F = [] := by rw [tagB, cutN_low h1]; rfl
   rw [e]
   go_enter Tryz.func12, Tryz.ntmps12
   go_wp2_with (go_at_call 27; ((with_reducible refine (Hid.out HFU).mono ?_); rintro e w2 ⟨A', c', rfl, hrd, hb2⟩))
   go_ret
   exact ⟨none, 0, rfl, RdS.nil _, hb2⟩
 · by_cases h2 : 20 < n
   · rw [cutN_high h2]
     have e : tagB n F = F := by rw [tagB, cutN_high h2]; exact List.take_of_length_le (by rw [HF.out]; exact Nat.le_refl _)
     rw [e]
     go_enter Tryz.func12, Tryz.ntmps12
     go_wp2_with (go_at_call 27; ((with_reducible refine (Hid.out HFU).mono ?_); rintro e w2 ⟨A', c', rfl, hrd, hb2⟩; have hcl := hrd.le; have hsm := hrd.small))
     go_ret
     exact ⟨A', c', rfl, hrd, hb2⟩
   · obtain ⟨k, rfl⟩ := Int.eq_ofNat_of_zero_le (show 0 ≤ n by omega)
     rw [cutN_mid k (by omega) (by omega)]
     have e : tagB (k : Int) F = F.take k := by rw [tagB, cutN_mid k (by omega) (by omega)]
     rw [e]
     have hk : k ≤ 20 := by omega
     go_enter Tryz.func12, Tryz.ntmps12
     go_wp2_with (go_at_call 27; ((with_reducible refine (Hid.out HFU).mono ?_); rintro e w2 ⟨A', c', rfl, hrd, hb2⟩; have hcl := hrd.le; have hsm := hrd.small; have hkc : k ≤ c' := (by omega)))
     go_ret
     exact ⟨A', c', rfl, hrd.head k c' hk hkc (Nat.le_refl _), hb2⟩
end Go.Proofs.YtheefckohnaceaaGreatDoor
