/- Several texts in one: plain words and walks. No statement is proved here. -/
import Derived.Test.YtmkeioeodlidgaaGreatDoorZMac4
import Derived.Test.YtmkeioeodlidgaaGreatDoorZShaRef
import Derived.Deep.DeepCutAuto
import Derived.Test.YtmkeioeodlidgaaGreatDoorZM5
import Derived.Test.YtmkeioeodlidgaaGreatDoorProg
import Derived.Test.YtmkeioeodlidgaaGreatDoorZBytes
import Derived.Test.YtmkeioeodlidgaaGreatDoorZM2
import Derived.KernelRfl
import Derived.Lib.Hide
import Derived.IntWalk
import Derived.Test.YtmkeioeodlidgaaGreatDoorZM0
import Derived.StillTailTactics
import Derived.Test.YtmkeioeodlidgaaGreatDoorZM1
import Derived.Laws.Cover3
namespace Go.Proofs.YtmkeioeodlidgaaGreatDoor
open Go.RowKit
set_option linter.unusedVariables false

def Apart (v v' : Value) : Prop := ∀ g, v.ownBlock = some g → v'.ownBlock ≠ some g
theorem Apart.right {v v' : Value} (h : Apart v v') : v'.ownBlock = none ∨ v'.ownBlock ≠ v.ownBlock := by
 cases hv : v'.ownBlock with
 | none => exact .inl rfl
 | some g => exact .inr fun e => h g e.symm hv
theorem Apart.left {v v' : Value} (h : Apart v v') : v.ownBlock = none ∨ v.ownBlock ≠ v'.ownBlock := by
 cases hv : v.ownBlock with
 | none => exact .inl rfl
 | some g => exact .inr fun e => h g hv e.symm
theorem Apart.turnL {v v2 v' : Value} {S B : Nat} (h : Apart v v') (hat : v2.ownBlock = v.ownBlock ∨ v2.ownBlock = some S) (hlt : ∀ g, v'.ownBlock = some g → B ≤ g ∧ g < S) : Apart v2 v' := by
 intro g hg e
 rcases hat with hat | hat
 · exact h g (hat ▸ hg) e
 · rw [hat] at hg
   injection hg with hg
   have := (hlt g e).2
   omega
theorem Apart.turnR {v v2 v' : Value} {S B : Nat} (h : Apart v' v) (hat : v2.ownBlock = v.ownBlock ∨ v2.ownBlock = some S) (hlt : ∀ g, v'.ownBlock = some g → B ≤ g ∧ g < S) : Apart v' v2 := by
 intro g hg e
 rcases hat with hat | hat
 · exact h g hg (hat ▸ e)
 · rw [hat] at e
   injection e with e
   have := (hlt g hg).2
   omega
theorem off_base {g o n p : Nat} (h : g + 1 ≤ p) : OffN (some ⟨g, o, none⟩) n p := fun _ => off_ne (by omega)

set_option maxRecDepth 100000 in
set_option maxHeartbeats 1000000 in
theorem rfull_any (A : Option Addr) (nb c : Nat) (key : List UInt8) (B : Option Addr) (nm cm : Nat) (m : List UInt8) (w : World) (hr : RdS w A nb c key) (hrm : RdS w B nm cm m) (hle : nb ≤ 100000) (hlm : nm ≤ 100000) :
 Calls Tryz.prog 68 #[.slice A nb c, .slice B nm cm] w fun e w' => ∃ A' c', e = .returned (.slice A' 20 c') ∧ RdS w' A' 20 c' (macFull key m) ∧ Below w.heap.size w w' := by
 have hz2 := zero20b
 have hl := hr.len
 obtain ⟨F, hF⟩ : ∃ F, F = macFull key m := ⟨_, rfl⟩
 rw [← hF]
 have HF := Lib.hid hF
 clear hF
 obtain ⟨S, hS⟩ : ∃ S, S = keyS key := ⟨_, rfl⟩
 have hSl : S.length ≤ 64 := by rw [hS]; exact keyS_le key
 obtain ⟨L, hL⟩ : ∃ L, L = S.length := ⟨_, rfl⟩
 rw [← hL] at hSl
 have HL := Lib.hid hL
 have HS := Lib.hid hS
 have HK := Lib.hid hl
 clear hS hL hl
 go_enter Tryz.func68, Tryz.ntmps68
 go_upto_if 17 with (at_builtin; refine wpList_append_rd _ rfl (.tmp 12) (.tmp 13) rfl Tryz.underlying35 u8_infoR w.heap.size (.slice (some ⟨w.heap.size, 0, none⟩) 0 0) 0 [] rfl (own_empty w) A nb c key rfl (hr.below ((Below.refl _ _).alloc (Nat.le_refl _) _)) (by omega) (by simp) ?_; intro v1 w1 hown1 hg1 hat1; obtain ⟨ho, hb⟩ := own_first HK.out hown1 hg1; obtain ⟨A1, c1, hv1⟩ := own_form ho; subst hv1; clear hown1 hg1 hat1; have hi := hle; have hsz1 := hb.size)
 go_cut [5, 6] (fun v p wx => ∃ (A' : Option Addr) (c' : Nat), v = .slice A' L c' ∧ wx.ownsRow w.heap.size 5 1 (.slice A' L c') L (cells S) ∧ Below w.heap.size w wx)
 case first =>
  by_cases h64 : 64 < nb
  · have hd : decide ((64 : Int) < (nb : Int)) = true := by simp; omega
    have hSD : S = shaSum key := by rw [HS.out]; exact keyS_long (by rw [HK.out]; exact h64)
    have hL20 : L = 20 := by rw [HL.out, hSD]; exact shaSum_len _
    have hsum := rsum_any A nb c key w1 (hr.below hb) (by omega)
    rw [← hSD] at hsum
    have HSL : Hid (S.length = 20) := Lib.hid (by rw [← HL.out]; exact hL20)
    have HSUM := Lib.hid hsum
    clear hsum hSD
    go_wp2_with (first
     | (go_at_call 92; ((with_reducible refine (Hid.out HSUM).mono ?_); rintro e w2 ⟨rfl, hb2⟩; have hb2w := hb.trans (hb2.mono hsz1); have hb2a := hb2w.alloc hb2w.size (.cells (cells Z20).toArray 47); have hI2 := BlkV.new_at w2 w2.heap.size 47 (cells Z20) _ rfl rfl))
     | ((with_reducible refine wpList_st rfl 47 (.tmp 6) (.tmp 19) rfl w2.heap.size 0 (cells S) rfl rfl 47 _ hI2 (by rw [length_cells, length_cells, HSL.out, Z20_len]; omega) (row20 (by rw [length_cells]; exact HSL.out)) (cells_one _) ?_); intro w3 hB3 ho3; rw [splice_all _ _ (by rw [length_cells, length_cells, HSL.out, Z20_len])] at hB3; have hb3 := hb2a.trans (ho3.below hb2w.size); have hrd3 := (show Blk w3 w2.heap.size 47 S from hB3).rd (n := 20) (c := 20) HSL.out (Nat.le_refl _) (by simp [maxLen]))
     | (at_builtin; refine wpList_append_rd _ rfl (.tmp 20) (.tmp 21) rfl Tryz.underlying35 u8_infoR w3.heap.size (.slice (some ⟨w3.heap.size, 0, none⟩) 0 0) 0 [] rfl (own_empty w3) (some ⟨w2.heap.size, 0, none⟩) 20 20 S rfl (hrd3.below ((Below.refl _ _).alloc (Nat.le_refl _) _)) (by omega) (by simp) ?_; intro v4 w4 hown4 hg4 hat4; obtain ⟨ho4, hb4⟩ := own_first HSL.out hown4 hg4; obtain ⟨A4, c4, hv4⟩ := own_form ho4; subst hv4; have hb4w := hb3.trans (hb4.mono hb3.size)))
    go_meet
    exact ⟨A4, c4, by rw [hL20], by rw [hL20]; exact own_monoH ho4 hb3.size, hb4w⟩
  · have hd : decide ((64 : Int) < (nb : Int)) = false := by simp; omega
    have hSK : S = key := by rw [HS.out]; exact keyS_short (by rw [HK.out]; exact h64)
    have hLn : L = nb := by rw [HL.out, hSK]; exact HK.out
    go_wp2_with fail
    go_meet
    exact ⟨A1, c1, by rw [hLn], by rw [hLn, hSK]; exact ho, hb⟩
 case rest =>
  obtain ⟨A2, c2, rfl, ho2, hb2⟩ := hcut
  clear ho hb hsz1 hi hr
  go_wp2_with fail
  go_loopw [5] (fun v wr => ∃ (j M : Nat) (A' : Option Addr) (c' : Nat), j ≤ 64 - L ∧ Hid (M = L + j) ∧ v = .slice A' M c' ∧ wr.ownsRow w.heap.size 5 1 (.slice A' M c') M (cells (S ++ List.replicate j 0)) ∧ Below w.heap.size w wr) (fun v _ => 64 - lenOf v)
  case atStart => exact ⟨0, L, A2, c2, by omega, Lib.hid rfl, rfl, by simpa using ho2, hb2⟩
  case round =>
   clear ho2 hb2
   obtain ⟨j, M, A', c', hj, hM, rfl, hor, hbr⟩ := hrel
   by_cases hlt : M < 64
   · have hMi : (M : Int) < 64 := by omega
     go_wp2_with (at_builtin; refine wpList_append_rd _ rfl (.tmp 26) (.tmp 27) rfl Tryz.underlying35 u8_infoR w.heap.size (.slice A' M c') M (S ++ List.replicate j 0) rfl (hor.alloc _) (some ⟨wr.heap.size, 0, none⟩) 1 1 [0] rfl (rd_byte wr 0 0 rfl) (by omega) (by have := hbr.size; simp; omega) ?_; intro v2 w2 hown2 hg2 hat2)
     obtain ⟨A3, c3, hv2⟩ := own_form hown2
     have hltb := hor.lt
     have hb2 := (hbr.alloc hbr.size (.cells #[.int .u8 0] 5)).grown hg2 (Nat.le_trans hbr.size (by simp)) (fun q hq => by have := (hltb q hq).1; omega)
     have hown3 : w2.ownsRow w.heap.size 5 1 (.slice A3 (M + 1) c3) (M + 1) (cells (S ++ List.replicate (j + 1) 0)) := by
      rw [hv2, List.append_assoc, ← List.replicate_succ'] at hown2
      exact hown2
     have hM2 : Hid (M + 1 = L + (j + 1)) := Lib.hid (by have := hM.out; omega)
     have hj2 : j + 1 ≤ 64 - L := by have := hM.out; omega
     rw [hv2]
     go_roundw
     case rel => exact ⟨j + 1, M + 1, A3, c3, hj2, hM2, rfl, hown3, hb2⟩
     case measure => simp [lenOf]; omega
   · have hjj : j = 64 - L := by have := hM.out; omega
     obtain rfl : M = 64 := by have := hM.out; omega
     have hKB : S ++ List.replicate j 0 = keyB key := by rw [hjj, HL.out, HS.out]; rfl
     rw [hKB] at hor
     obtain ⟨K, hKK⟩ : ∃ K, K = keyB key := ⟨_, rfl⟩
     have hKl : K.length = 64 := by rw [hKK]; exact keyB_len key
     rw [← hKK] at hor
     obtain ⟨gk, ck, hv, hgk, hgks⟩ := hor.form (by omega)
     injection hv with hv1 _ hv3
     subst hv1; subst hv3
     have hrk := RdS.of_own hor
     have HKL := Lib.hid hKl
     have HKK := Lib.hid hKK
     have hrm0 := hrm
     clear hKl hKK hKB hjj hor hlt hj hM
     go_wp2_with fail
     go_loopw [7, 8, 9] (fun vi vo i wx => ∃ (k : Nat) (Ai : Option Addr) (ci : Nat) (Ao : Option Addr) (co : Nat), k ≤ 64 ∧ i = .int .i64 k ∧ vi = .slice Ai k ci ∧ vo = .slice Ao k co ∧ wx.ownsRow (gk + 1) 5 1 (.slice Ai k ci) k (cells (xorB 54 (K.take k))) ∧ wx.ownsRow (gk + 1) 5 1 (.slice Ao k co) k (cells (xorB 92 (K.take k))) ∧
      Apart (.slice Ai k ci) (.slice Ao k co) ∧ RdS wx (some ⟨gk, 0, none⟩) 64 c' K ∧ Below w.heap.size w wx ∧ gk < wx.heap.size) (fun _ _ i _ => 64 - (intOf i).toNat)
     case atStart => exact ⟨0, none, 0, none, 0, by omega, rfl, rfl, rfl, World.ownsRow_nil _ _ _ _, World.ownsRow_nil _ _ _ _, fun g hg => by simp [Value.ownBlock] at hg, hrk, hbr, hgks⟩
     case round =>
      clear hrk hbr hgks
      obtain ⟨k, Ai, ci, Ao, co, hk, rfl, rfl, rfl, hi, ho, hio, hrk, hbx, hgx⟩ := hrel
      by_cases hlt : k < 64
      · obtain ⟨y, hy⟩ : ∃ y : UInt8, y = K.getD k 0 := ⟨_, rfl⟩
        have hx1 := xr_byte y 54
        have hx2 := xr_byte y 92
        have et1 := xorB_take 54 K k (by rw [HKL.out]; exact hlt)
        have et2 := xorB_take 92 K k (by rw [HKL.out]; exact hlt)
        rw [← hy] at et1 et2
        have cellOf : ∀ wz, RdS wz (some ⟨gk, 0, none⟩) 64 c' K → wz.cell? ⟨gk, k, none⟩ = some (.int .u8 (y.toNat : Int)) := by
         intro wz hz
         obtain ⟨b, off, hA, _, hc⟩ := hz.2.2.2.2 (by omega)
         injection hA with hA
         injection hA with hA1 hA2
         subst hA1; subst hA2
         have := hc k hlt
         rw [Nat.zero_add, ← hy] at this
         exact this
        have hc1 := cellOf _ hrk
        obtain ⟨z, hz⟩ : ∃ z : Int, z = (y.toNat : Int) := ⟨_, rfl⟩
        have CO := Lib.hid cellOf
        have hltI := hi.lt
        have hltO := ho.lt
        have HLI := Lib.hid hltI
        have HLO := Lib.hid hltO
        have HX1 : Hid (bits BinOp.xor IntKind.u8 z 54 = ((y ^^^ 54).toNat : Int)) := Lib.hid (by rw [hz]; exact hx1)
        have HX2 : Hid (bits BinOp.xor IntKind.u8 z 92 = ((y ^^^ 92).toNat : Int)) := Lib.hid (by rw [hz]; exact hx2)
        have ET1 := Lib.hid et1
        have ET2 := Lib.hid et2
        have HIO := Lib.hid hio
        have HZ := Lib.hid hz
        rw [← hz] at hc1
        have hsx := hbx.size
        clear hy hx1 hx2 et1 et2 cellOf hltI hltO hio hz hrm hrm0
        go_wp2_with (first
         | (at_builtin; refine wpList_append_rd _ rfl (.tmp 33) (.tmp 39) rfl Tryz.underlying35 u8_infoR (gk + 1) (.slice Ai k ci) k (xorB 54 (K.take k)) rfl (hi.alloc _) (some ⟨wr.heap.size, 0, none⟩) 1 1 [y ^^^ 54] rfl (rd_byte wr (y ^^^ 54) _ HX1.out) (by omega) (by simp; omega) ?_; intro v2 w2 hi2 hg2 hat2; obtain ⟨Ai2, ci2, hv2⟩ := own_form hi2; subst hv2; have ho2 := (ho.alloc (.cells #[.int .u8 (bits BinOp.xor IntKind.u8 z 54)] 5)).kept hg2 (Apart.right HIO.out); have hrk2 := (hrk.below ((Below.refl _ _).alloc (Nat.le_refl _) (.cells #[.int .u8 (bits BinOp.xor IntKind.u8 z 54)] 5))).keep hg2 (fun q hq => off_base (HLI.out q hq).1); have hb2 := (hbx.alloc hsx (.cells #[.int .u8 (bits BinOp.xor IntKind.u8 z 54)] 5)).grown hg2 (by simp; omega) (fun q hq => by have := (HLI.out q hq).1; omega); have hsz2 := hg2.size; simp only [World.size_alloc] at hsz2 hat2; have hap2 := HIO.out.turnL hat2 (fun g hg => ⟨(HLO.out g hg).1, by have := (HLO.out g hg).2; omega⟩); have HAP2 := Lib.hid hap2; have hc2 := CO.out w2 hrk2; rw [← HZ.out] at hc2; have hltO2 := ho2.lt; have HLO2 := Lib.hid hltO2; have hltI2 := hi2.lt; have HLI2 := Lib.hid hltI2; clear hltO2 hltI2 hap2 hat2 hc1)
         | (at_builtin; refine wpList_append_rd _ rfl (.tmp 41) (.tmp 47) rfl Tryz.underlying35 u8_infoR (gk + 1) (.slice Ao k co) k (xorB 92 (K.take k)) rfl (ho2.alloc _) (some ⟨w2.heap.size, 0, none⟩) 1 1 [y ^^^ 92] rfl (rd_byte w2 (y ^^^ 92) _ HX2.out) (by omega) (by simp; omega) ?_; intro v3 w3 ho3 hg3 hat3; obtain ⟨Ao3, co3, hv3⟩ := own_form ho3; subst hv3; have hi3 := (hi2.alloc (.cells #[.int .u8 (bits BinOp.xor IntKind.u8 z 92)] 5)).kept hg3 (Apart.left HAP2.out); have hrk3 := (hrk2.below ((Below.refl _ _).alloc (Nat.le_refl _) (.cells #[.int .u8 (bits BinOp.xor IntKind.u8 z 92)] 5))).keep hg3 (fun q hq => off_base (HLO2.out q hq).1); have hb3 := (hb2.alloc hb2.size (.cells #[.int .u8 (bits BinOp.xor IntKind.u8 z 92)] 5)).grown hg3 (by have := hb2.size; simp; omega) (fun q hq => by have := (HLO2.out q hq).1; omega); have hsz3 := hg3.size; simp only [World.size_alloc] at hsz3 hat3; have hap3 := HAP2.out.turnR hat3 (fun g hg => ⟨(HLI2.out g hg).1, by have := (HLI2.out g hg).2; omega⟩)))
        rw [← ET1.out] at hi3
        rw [← ET2.out] at ho3
        have hgx3 : gk < w3.heap.size := by omega
        go_roundw
        case rel => exact ⟨k + 1, Ai2, ci2, Ao3, co3, by omega, by go_num, rfl, rfl, hi3, ho3, hap3, hrk3, hb3, hgx3⟩
        case measure => simp [intOf]; omega
      · obtain rfl : k = 64 := by omega
        have hall : K.take 64 = K := List.take_of_length_le (by rw [HKL.out]; exact Nat.le_refl _)
        rw [hall] at hi ho
        obtain ⟨I, hI⟩ : ∃ I, I = inSum key m := ⟨_, rfl⟩
        have hF := HF.out
        have hIl : I.length = 20 := by rw [hI]; exact inSum_len _ _
        have hFl : F.length = 20 := by rw [hF]; exact macFull_len _ _
        have hs1 : ∀ (A5 : Option Addr) (c5 : Nat) (w5 : World), RdS w5 A5 (64 + nm) c5 (xorB 54 K ++ m) → Calls Tryz.prog 92 #[.slice A5 (64 + nm) c5] w5 fun e w' => e = .returned (.agg (cells I).toArray) ∧ Below w5.heap.size w5 w' := by
         intro A5 c5 w5 h
         rw [hI, inSum, ← HKK.out]
         exact rsum_any A5 (64 + nm) c5 _ w5 h (by omega)
        have hs2 : ∀ (A5 : Option Addr) (c5 : Nat) (w5 : World), RdS w5 A5 84 c5 (xorB 92 K ++ I) → Calls Tryz.prog 92 #[.slice A5 84 c5] w5 fun e w' => e = .returned (.agg (cells F).toArray) ∧ Below w5.heap.size w5 w' := by
         intro A5 c5 w5 h
         rw [hF, macFull, ← HKK.out, ← hI]
         exact rsum_any A5 84 c5 _ w5 h (by omega)
        have HIL := Lib.hid hIl
        have HFL := Lib.hid hFl
        have HS1 := Lib.hid hs1
        have HS2 := Lib.hid hs2
        have HIO := Lib.hid hio
        have hltI := hi.lt
        have HLI := Lib.hid hltI
        have hltO := ho.lt
        have HLO := Lib.hid hltO
        have hrmx := hrm.below hbx
        have hsx := hbx.size
        clear hI hF hIl hFl hs1 hs2 hio hltI hltO hrk hall hrm hrm0
        go_wp2_with (first
         | (at_builtin; refine wpList_append_rd _ rfl (.tmp 49) (.tmp 50) rfl Tryz.underlying35 u8_infoR (gk + 1) (.slice Ai 64 ci) 64 (xorB 54 K) rfl hi B nm cm m rfl hrmx (by omega) (by omega) ?_; intro v2 w2 hi2 hg2 hat2; obtain ⟨Ai2, ci2, hv2⟩ := own_form hi2; subst hv2; have ho2 := ho.kept hg2 (Apart.right HIO.out); have hb2 := hbx.grown hg2 hsx (fun q hq => by have := (HLI.out q hq).1; omega); have hrd2 := RdS.of_own hi2)
         | (go_at_call 92; ((with_reducible refine (HS1.out Ai2 ci2 w2 hrd2).mono ?_); rintro e w3 ⟨rfl, hb3⟩; have ho3 := (ho2.kept (grown_of_below hb3 none) (by cases hq : (Value.slice Ao 64 co).ownBlock <;> simp)).alloc (.cells (cells Z20).toArray 47); have hb3w := hb2.trans (hb3.mono hb2.size); have hb3a := hb3w.alloc hb3w.size (.cells (cells Z20).toArray 47); have hI3 := BlkV.new_at w3 w3.heap.size 47 (cells Z20) _ rfl rfl; have hlt3 : ∀ g, (Value.slice Ao 64 co).ownBlock = some g → g < w3.heap.size := (fun g hg => by have h1 := (HLO.out g hg).2; have h2 := hg2.size; have h3 := hb3.size; omega)))
         | ((with_reducible refine wpList_st rfl 47 (.tmp 10) (.tmp 52) rfl w3.heap.size 0 (cells I) rfl rfl 47 _ hI3 (by rw [length_cells, length_cells, HIL.out, Z20_len]; omega) (row20 (by rw [length_cells]; exact HIL.out)) (cells_one _) ?_); intro w4 hB4 ho4; rw [splice_all _ _ (by rw [length_cells, length_cells, HIL.out, Z20_len])] at hB4; have hb4 := hb3a.trans (ho4.below hb3w.size); have hrd4 := (show Blk w4 w3.heap.size 47 I from hB4).rd (n := 20) (c := 20) HIL.out (Nat.le_refl _) (by simp [maxLen]); have hro4 := ho3.kept ho4.grown (Or.inr (fun e => by have := hlt3 _ e; omega)); have hsz4 := hro4.lt; have HLT4 := Lib.hid hsz4; clear hsz4)
         | (at_builtin; refine wpList_append_rd _ rfl (.tmp 53) (.tmp 54) rfl Tryz.underlying35 u8_infoR (gk + 1) (.slice Ao 64 co) 64 (xorB 92 K) rfl hro4 (some ⟨w3.heap.size, 0, none⟩) 20 20 I rfl hrd4 (by omega) (by have h1 := hb4.size; have h2 := ho4.size; simp only [World.size_alloc] at h2; have h3 := hg2.size; have h4 := hb3.size; omega) ?_; intro v5 w5 ho5 hg5 hat5; obtain ⟨Ao5, co5, hv5⟩ := own_form ho5; subst hv5; have hb5 := hb4.grown hg5 hb4.size (fun q hq => by have := (HLT4.out q hq).1; omega); have hrd5 := RdS.of_own ho5)
         | (go_at_call 92; ((with_reducible refine (HS2.out Ao5 co5 w5 hrd5).mono ?_); rintro e w6 ⟨rfl, hb6⟩; have hb6w := hb5.trans (hb6.mono hb5.size); have hb6a := hb6w.alloc hb6w.size (.cells (cells Z20).toArray 47); have hI6 := BlkV.new_at w6 w6.heap.size 47 (cells Z20) _ rfl rfl))
         | ((with_reducible refine wpList_st rfl 47 (.tmp 11) (.tmp 56) rfl w6.heap.size 0 (cells F) rfl rfl 47 _ hI6 (by rw [length_cells, length_cells, HFL.out, Z20_len]; omega) (row20 (by rw [length_cells]; exact HFL.out)) (cells_one _) ?_); intro w7 hB7 ho7; rw [splice_all _ _ (by rw [length_cells, length_cells, HFL.out, Z20_len])] at hB7; have hb7 := hb6a.trans (ho7.below hb6w.size); have hrd7 := (show Blk w7 w6.heap.size 47 F from hB7).rd (n := 20) (c := 20) HFL.out (Nat.le_refl _) (by simp [maxLen]))
         | (at_builtin; refine wpList_append_rd _ rfl (.tmp 57) (.tmp 58) rfl Tryz.underlying35 u8_infoR w7.heap.size (.slice (some ⟨w7.heap.size, 0, none⟩) 0 0) 0 [] rfl (own_empty w7) (some ⟨w6.heap.size, 0, none⟩) 20 20 F rfl (hrd7.below ((Below.refl _ _).alloc (Nat.le_refl _) _)) (by omega) (by simp) ?_; intro v8 w8 hown8 hg8 hat8; obtain ⟨ho8, hb8⟩ := own_first HFL.out hown8 hg8; obtain ⟨A8, c8, hv8⟩ := own_form ho8; subst hv8; have hb8w := hb7.trans (hb8.mono hb7.size)))
        go_ret
        exact ⟨A8, c8, rfl, RdS.of_own ho8, hb8w⟩

set_option maxHeartbeats 1000000 in
theorem rtag_any (A : Option Addr) (nb c : Nat) (key : List UInt8) (n : Int) (B : Option Addr) (nm cm : Nat) (m : List UInt8) (w : World) (hr : RdS w A nb c key) (hrm : RdS w B nm cm m) (hle : nb ≤ 100000) (hlm : nm ≤ 100000)
 (hn : -9223372036854775808 ≤ n ∧ n ≤ 9223372036854775807) :
 Calls Tryz.prog 43 #[.slice A nb c, .int .i64 n, .slice B nm cm] w fun e w' => ∃ A' c', e = .returned (.slice A' (cutN n) c') ∧ RdS w' A' (cutN n) c' (tagB n (macFull key m)) ∧ Below w.heap.size w w' := by
 have hfu := rfull_any A nb c key B nm cm m w hr hrm hle hlm
 obtain ⟨F, hF⟩ : ∃ F, F = macFull key m := ⟨_, rfl⟩
 have hFl : F.length = 20 := by rw [hF]; exact macFull_len _ _
 rw [← hF] at hfu ⊢
 have HFU := Lib.hid hfu
 have HF := Lib.hid hFl
 clear hfu hF hFl
 by_cases h1 : n < 1
 · rw [cutN_low h1]
   have e : tagB n F = [] := by rw [tagB, cutN_low h1]; rfl
   rw [e]
   go_enter Tryz.func43, Tryz.ntmps43
   go_wp2_with (go_at_call 68; ((with_reducible refine (Hid.out HFU).mono ?_); rintro e w2 ⟨A', c', rfl, hrd, hb2⟩))
   go_ret
   exact ⟨none, 0, rfl, RdS.nil _, hb2⟩
 · by_cases h2 : 20 < n
   · rw [cutN_high h2]
     have e : tagB n F = F := by rw [tagB, cutN_high h2]; exact List.take_of_length_le (by rw [HF.out]; exact Nat.le_refl _)
     rw [e]
     go_enter Tryz.func43, Tryz.ntmps43
     go_wp2_with (go_at_call 68; ((with_reducible refine (Hid.out HFU).mono ?_); rintro e w2 ⟨A', c', rfl, hrd, hb2⟩; have hcl := hrd.le; have hsm := hrd.small))
     go_ret
     exact ⟨A', c', rfl, hrd, hb2⟩
   · obtain ⟨k, rfl⟩ := Int.eq_ofNat_of_zero_le (show 0 ≤ n by omega)
     rw [cutN_mid k (by omega) (by omega)]
     have e : tagB (k : Int) F = F.take k := by rw [tagB, cutN_mid k (by omega) (by omega)]
     rw [e]
     have hk : k ≤ 20 := by omega
     go_enter Tryz.func43, Tryz.ntmps43
     go_wp2_with (go_at_call 68; ((with_reducible refine (Hid.out HFU).mono ?_); rintro e w2 ⟨A', c', rfl, hrd, hb2⟩; have hcl := hrd.le; have hsm := hrd.small; have hkc : k ≤ c' := (by omega)))
     go_ret
     exact ⟨A', c', rfl, hrd.head k c' hk hkc (Nat.le_refl _), hb2⟩
def Wy.ks (s : Wy) : List UInt8 := trio s.key s.auth s.salt
theorem Wy.ks_len {s : Wy} (h : s.fit) : s.ks.length = 50 := by
 obtain ⟨h1, h2, h3, _⟩ := h
 simp [Wy.ks, trio, h1, h2, h3]
theorem ks_auth {s : Wy} (h : s.fit) {i : Nat} (hi : i < 20) : s.ks.getD (16 + i) 0 = s.auth.getD i 0 := by
 obtain ⟨h1, h2, h3, _⟩ := h
 unfold Wy.ks trio
 simp only [List.getD]
 rw [List.getElem?_append_right (by omega), List.getElem?_append_left (by omega), h1, Nat.add_sub_cancel_left]
theorem ks_key {s : Wy} (h : s.fit) {i : Nat} (hi : i < 16) : s.ks.getD i 0 = s.key.getD i 0 := by
 obtain ⟨h1, h2, h3, _⟩ := h
 unfold Wy.ks trio
 simp only [List.getD]
 rw [List.getElem?_append_left (by omega)]
theorem ks_salt {s : Wy} (h : s.fit) {i : Nat} (hi : i < 14) : s.ks.getD (36 + i) 0 = s.salt.getD i 0 := by
 obtain ⟨h1, h2, h3, _⟩ := h
 unfold Wy.ks trio
 simp only [List.getD]
 rw [List.getElem?_append_right (by omega), List.getElem?_append_right (by omega), h1, h2, show 36 + i - 16 - 20 = i by omega]
theorem rd_auth {s : Wy} (h : s.fit) {W : World} {g o : Nat} {t : TypeId} {cs : List Value} (hB : BlkV W g t cs) (hc : ∀ i, i < 50 → cs[o + i]? = (cells s.ks)[i]?) : RdS W (some ⟨g, o + 16, none⟩) 20 20 s.auth := by
 refine ⟨h.2.1, Nat.le_refl _, by simp [maxLen], fun h0 => (nomatch h0), fun _ => ⟨g, o + 16, rfl, hB.lt, fun j hj => ?_⟩⟩
 rw [hB.cell, Nat.add_assoc, hc (16 + j) (by omega), cells_at (by rw [Wy.ks_len h]; omega), ks_auth h hj]
set_option maxRecDepth 100000 in
set_option maxHeartbeats 1000000 in
theorem rtag15_any (s : Wy) (A : Option Addr) (n c : Nat) (bs : List UInt8) (i : Nat) (w : World) (hs : s.fit) (hr : RdS w A n c bs) (hn : n ≤ 50000) (hi : i < 9223372036854775808) :
 Calls Tryz.prog 18 #[.agg (cells s.ks).toArray, .slice A n c, .int .i64 (i : Int)] w fun e w' => ∃ A' c', e = .returned (.slice A' 10 c') ∧ RdS w' A' 10 c' (tagW s bs i) ∧ Below w.heap.size w w' := by
 have hB : BlkV (w.alloc (.cells (cells s.ks).toArray 49)) w.heap.size 49 (cells s.ks) := BlkV.new _ _ _
 have hb0 : Below w.heap.size w (w.alloc (.cells (cells s.ks).toArray 49)) := (Below.refl _ _).alloc (Nat.le_refl _) _
 have HB := Lib.hid hB
 have HRA := Lib.hid (rd_auth hs (o := 0) hB (fun i _ => by rw [Nat.zero_add]))
 have q1 : Int.tdiv (i : Int) 65536 = ((i / 65536 : Nat) : Int) := by rw [Int.tdiv_eq_ediv_of_nonneg (by omega)]; omega
 obtain ⟨y, hy⟩ : ∃ y, y = i / 65536 := ⟨_, rfl⟩
 have ly : y < 140737488355328 := by omega
 rw [← hy] at q1
 have ew : IntKind.u64.wrap (y : Int) = (y : Int) := by rw [IntKind.wrap_u64]; omega
 have HP : Hid (Calls Tryz.prog 42 #[.slice A n c, .int .i64 4, .int .u64 (y : Int)] (w.alloc (.cells (cells s.ks).toArray 49)) fun e w' => ∃ A' c', e = .returned (.slice A' (n + 4) c') ∧ BO w w' A' (n + 4) c' (bs ++ beb 4 y) ∧ Below (w.alloc (.cells (cells s.ks).toArray 49)).heap.size (w.alloc (.cells (cells s.ks).toArray 49)) w') := Lib.hid (rput_bo w _ A n c (n + 4) bs 4 y 4 y rfl rfl rfl hb0 (hr.below hb0) (by omega) (by omega) (by omega) (by omega))
 have HT : Hid ((macFull s.auth (bs ++ beb 4 y)).take 10 = tagW s bs i) := Lib.hid (by rw [hy]; rfl)
 clear hr hB hb0 hy
 go_enter Tryz.func18, Tryz.ntmps18
 go_wp2_with (first
  | (go_at_call 42; ((with_reducible refine (Hid.out HP).mono ?_); rintro e w1 ⟨A1, c1, rfl, hbo, hb1⟩; have B1 := Lib.hid hbo; have HTG : Hid (Calls Tryz.prog 43 #[.slice (some ⟨w.heap.size, 16, none⟩) 20 20, .int .i64 10, .slice A1 (n + 4) c1] w1 fun e w' => ∃ A' c', e = .returned (.slice A' 10 c') ∧ RdS w' A' 10 c' ((macFull s.auth (bs ++ beb 4 y)).take 10) ∧ Below w1.heap.size w1 w') := Lib.hid (rtag_any _ 20 20 s.auth 10 A1 (n + 4) c1 _ w1 (HRA.out.below hb1) hbo.rd (by omega) (by omega) (by omega)); clear hbo hb1))
  | (go_at_call 43; ((with_reducible refine (Hid.out HTG).mono ?_); rintro e w2 ⟨A2, c2, rfl, hr2, hb2⟩; have R2 := Lib.hid hr2; have f2 := Lib.hid (B1.out.2.trans (hb2.mono B1.out.2.size)); clear hr2 hb2)))
 go_ret
 exact ⟨A2, c2, rfl, by rw [← HT.out]; exact R2.out, f2.out⟩
theorem u8_and_one (a : Nat) (ha : a < 256) : bits BinOp.and IntKind.u8 (a : Int) 1 = ((a % 2 : Nat) : Int) := by
 have h := u8_and_nat a 1 ha (by omega)
 rw [Nat.and_one_is_mod] at h
 exact h
theorem twice_any (x : UInt8) (xi : Int) (w : World) (hx : xi = (x.toNat : Int)) : Calls Tryz.prog 121 #[.int .u8 xi] w fun e w' => e = .returned (.int .u8 ((dbl x).toNat : Int)) ∧ w = w' := by
 have hl := x.toNat_lt
 rw [dbl_nat]
 obtain ⟨n, hn⟩ : ∃ n, n = x.toNat := ⟨_, rfl⟩
 rw [← hn] at hl hx ⊢
 clear hn
 subst hx
 have h1 := u8_xor_nat (n * 2 % 256) (n / 128 * 27) (by omega) (by omega)
 have hb : bits BinOp.xor IntKind.u8 ((n : Int) * 2 % 256) ((n : Int) / 128 * 27) = (dblN n : Nat) := by
  unfold dblN; rw [← h1]; simp
 have H := Lib.hid hb
 clear h1 hb
 have hi : (n : Int) ≤ 255 := by omega
 go_enter Tryz.func121, Tryz.ntmps121
 go_wp2
 rw [H.out]
 go_ret
 exact ⟨rfl, rfl⟩
theorem rotl8_4 (x : Nat) (w : World) (hx : x < 256) : Calls Tryz.prog 122 #[.int .u8 x, .int .i64 4] w fun e w' => e = .returned (.int .u8 (rot8 4 x : Nat)) ∧ w = w' := by
 have h := u8_or_nat (x * 2 ^ 4 % 256) (x / 2 ^ (8 - 4)) (Nat.mod_lt _ (by omega)) (by simp; omega)
 have hb : bits BinOp.or IntKind.u8 ((x : Int) * 16 % 256) ((x : Int) / 16) = (rot8 4 x : Nat) := by
  unfold rot8; rw [← h]; simp
 have hi : (x : Int) ≤ 255 := by omega
 have hk : bits BinOp.and IntKind.u64 4 7 = 4 := by decide
 have HB := Lib.hid hb
 clear h hb
 go_enter Tryz.func122, Tryz.ntmps122
 go_wp2
 rw [HB.out]
 go_ret
 exact ⟨rfl, rfl⟩
theorem rotl8_3 (x : Nat) (w : World) (hx : x < 256) : Calls Tryz.prog 122 #[.int .u8 x, .int .i64 3] w fun e w' => e = .returned (.int .u8 (rot8 3 x : Nat)) ∧ w = w' := by
 have h := u8_or_nat (x * 2 ^ 3 % 256) (x / 2 ^ (8 - 3)) (Nat.mod_lt _ (by omega)) (by simp; omega)
 have hb : bits BinOp.or IntKind.u8 ((x : Int) * 8 % 256) ((x : Int) / 32) = (rot8 3 x : Nat) := by
  unfold rot8; rw [← h]; simp
 have hi : (x : Int) ≤ 255 := by omega
 have hk : bits BinOp.and IntKind.u64 3 7 = 3 := by decide
 have HB := Lib.hid hb
 clear h hb
 go_enter Tryz.func122, Tryz.ntmps122
 go_wp2
 rw [HB.out]
 go_ret
 exact ⟨rfl, rfl⟩
theorem rotl8_2 (x : Nat) (w : World) (hx : x < 256) : Calls Tryz.prog 122 #[.int .u8 x, .int .i64 2] w fun e w' => e = .returned (.int .u8 (rot8 2 x : Nat)) ∧ w = w' := by
 have h := u8_or_nat (x * 2 ^ 2 % 256) (x / 2 ^ (8 - 2)) (Nat.mod_lt _ (by omega)) (by simp; omega)
 have hb : bits BinOp.or IntKind.u8 ((x : Int) * 4 % 256) ((x : Int) / 64) = (rot8 2 x : Nat) := by
  unfold rot8; rw [← h]; simp
 have hi : (x : Int) ≤ 255 := by omega
 have hk : bits BinOp.and IntKind.u64 2 7 = 2 := by decide
 have HB := Lib.hid hb
 clear h hb
 go_enter Tryz.func122, Tryz.ntmps122
 go_wp2
 rw [HB.out]
 go_ret
 exact ⟨rfl, rfl⟩
theorem rotl8_1 (x : Nat) (w : World) (hx : x < 256) : Calls Tryz.prog 122 #[.int .u8 x, .int .i64 1] w fun e w' => e = .returned (.int .u8 (rot8 1 x : Nat)) ∧ w = w' := by
 have h := u8_or_nat (x * 2 ^ 1 % 256) (x / 2 ^ (8 - 1)) (Nat.mod_lt _ (by omega)) (by simp; omega)
 have hb : bits BinOp.or IntKind.u8 ((x : Int) * 2 % 256) ((x : Int) / 128) = (rot8 1 x : Nat) := by
  unfold rot8; rw [← h]; simp
 have hi : (x : Int) ≤ 255 := by omega
 have hk : bits BinOp.and IntKind.u64 1 7 = 1 := by decide
 have HB := Lib.hid hb
 clear h hb
 go_enter Tryz.func122, Tryz.ntmps122
 go_wp2
 rw [HB.out]
 go_ret
 exact ⟨rfl, rfl⟩
theorem mixed_nat (n : Nat) (w : World) (hl : n < 256) : Calls Tryz.prog 118 #[.int .u8 n] w fun e w' => e = .returned (.int .u8 (mixN n : Nat)) ∧ w = w' := by
 have h4 := rotl8_4 n w hl
 have h3 := rotl8_3 n w hl
 have h2 := rotl8_2 n w hl
 have h1 := rotl8_1 n w hl
 have l4 := rot8_lt 4 n (by omega) hl
 have l3 := rot8_lt 3 n (by omega) hl
 have l2 := rot8_lt 2 n (by omega) hl
 have l1 := rot8_lt 1 n (by omega) hl
 have hm : mixN n = n ^^^ rot8 4 n ^^^ rot8 3 n ^^^ rot8 2 n ^^^ rot8 1 n ^^^ 99 := rfl
 obtain ⟨a, ha⟩ : ∃ a, a = rot8 4 n := ⟨_, rfl⟩
 obtain ⟨b, hb⟩ : ∃ a, a = rot8 3 n := ⟨_, rfl⟩
 obtain ⟨c, hc⟩ : ∃ a, a = rot8 2 n := ⟨_, rfl⟩
 obtain ⟨d, hd⟩ : ∃ a, a = rot8 1 n := ⟨_, rfl⟩
 rw [← ha] at h4 l4 hm
 rw [← hb] at h3 l3 hm
 rw [← hc] at h2 l2 hm
 rw [← hd] at h1 l1 hm
 clear ha hb hc hd
 have x8 : ∀ {a b : Nat}, a < 256 → b < 256 → a ^^^ b < 256 := fun ha hb => Nat.xor_lt_two_pow (n := 8) ha hb
 have hx : bits BinOp.xor IntKind.u8 (bits BinOp.xor IntKind.u8 (bits BinOp.xor IntKind.u8 (bits BinOp.xor IntKind.u8 (bits BinOp.xor IntKind.u8 (n : Int) (a : Int)) (b : Int)) (c : Int)) (d : Int)) 99 = (mixN n : Nat) := by
  rw [u8_xor_nat _ _ hl l4, u8_xor_nat _ _ (x8 hl l4) l3, u8_xor_nat _ _ (x8 (x8 hl l4) l3) l2, u8_xor_nat _ _ (x8 (x8 (x8 hl l4) l3) l2) l1]
  have := u8_xor_nat (n ^^^ a ^^^ b ^^^ c ^^^ d) 99 (x8 (x8 (x8 (x8 hl l4) l3) l2) l1) (by omega)
  rw [hm]
  exact this
 have HX := Lib.hid hx
 have H4 := Lib.hid h4
 have H3 := Lib.hid h3
 have H2 := Lib.hid h2
 have H1 := Lib.hid h1
 clear hx h4 h3 h2 h1 hm x8 l4 l3 l2 l1
 go_enter Tryz.func118, Tryz.ntmps118
 go_wp2_with (first
  | (go_at_call 122; ((with_reducible refine (Hid.out H4).mono ?_); rintro e w' ⟨rfl, rfl⟩))
  | (go_at_call 122; ((with_reducible refine (Hid.out H3).mono ?_); rintro e w' ⟨rfl, rfl⟩))
  | (go_at_call 122; ((with_reducible refine (Hid.out H2).mono ?_); rintro e w' ⟨rfl, rfl⟩))
  | (go_at_call 122; ((with_reducible refine (Hid.out H1).mono ?_); rintro e w' ⟨rfl, rfl⟩)))
 rw [HX.out]
 go_ret
 exact ⟨rfl, rfl⟩
theorem mixed_any (x : UInt8) (xi : Int) (w : World) (hx : xi = (x.toNat : Int)) : Calls Tryz.prog 118 #[.int .u8 xi] w fun e w' => e = .returned (.int .u8 ((mx x).toNat : Int)) ∧ w = w' := by
 subst hx
 rw [mx_nat]
 exact mixed_nat x.toNat w x.toNat_lt
theorem x8 {a b : Nat} (ha : a < 256) (hb : b < 256) : a ^^^ b < 256 := Nat.xor_lt_two_pow (n := 8) ha hb

theorem row256_ : RowTy Tryz.prog 179 256 := ⟨_, Tryz.underlying179, rfl, by kernel_rfl⟩
theorem row256 {n : Nat} (h : n = 256) : RowTy Tryz.prog 179 n := h ▸ row256_
theorem row255_ : RowTy Tryz.prog 194 255 := ⟨_, Tryz.underlying194, rfl, by kernel_rfl⟩
theorem row255 {n : Nat} (h : n = 255) : RowTy Tryz.prog 194 n := h ▸ row255_
theorem row176_ : RowTy Tryz.prog 181 176 := ⟨_, Tryz.underlying181, rfl, by kernel_rfl⟩
theorem row176 {n : Nat} (h : n = 176) : RowTy Tryz.prog 181 n := h ▸ row176_
theorem row16_ : RowTy Tryz.prog 22 16 := ⟨_, Tryz.underlying22, rfl, by kernel_rfl⟩
theorem row16 {n : Nat} (h : n = 16) : RowTy Tryz.prog 22 n := h ▸ row16_
theorem row4_ : RowTy Tryz.prog 166 4 := ⟨_, Tryz.underlying166, rfl, by kernel_rfl⟩
theorem row4 {n : Nat} (h : n = 4) : RowTy Tryz.prog 166 n := h ▸ row4_
def Z256 : List UInt8 := List.replicate 256 0
def Z255 : List UInt8 := List.replicate 255 0
def Z176 : List UInt8 := List.replicate 176 0
def Z16 : List UInt8 := List.replicate 16 0
def Z4 : List UInt8 := List.replicate 4 0
theorem Z256_len : Z256.length = 256 := by rw [Z256, List.length_replicate]
theorem Z255_len : Z255.length = 255 := by rw [Z255, List.length_replicate]
theorem Z176_len : Z176.length = 176 := by rw [Z176, List.length_replicate]
theorem Z16_len : Z16.length = 16 := by rw [Z16, List.length_replicate]
theorem Z4_len : Z4.length = 4 := by rw [Z4, List.length_replicate]
theorem zero256 (w : World) : (zeroValue 179).run Tryz.prog w = .ok (.agg (cells Z256).toArray) w := by kernel_rfl
theorem zero255 (w : World) : (zeroValue 194).run Tryz.prog w = .ok (.agg (cells Z255).toArray) w := by kernel_rfl
theorem zero176 (w : World) : (zeroValue 181).run Tryz.prog w = .ok (.agg (cells Z176).toArray) w := by kernel_rfl
theorem zero16 (w : World) : (zeroValue 22).run Tryz.prog w = .ok (.agg (cells Z16).toArray) w := by kernel_rfl
theorem zero4 (w : World) : (zeroValue 166).run Tryz.prog w = .ok (.agg (cells Z4).toArray) w := by kernel_rfl

theorem xr8 (a x : UInt8) : bits BinOp.xor IntKind.u8 (a.toNat : Int) (x.toNat : Int) = ((a ^^^ x).toNat : Int) := by
 rw [u8_xor_nat _ _ a.toNat_lt x.toNat_lt, UInt8.toNat_xor]
set_option maxRecDepth 100000 in
set_option maxHeartbeats 1000000 in
theorem powers_any (w : World) : Calls Tryz.prog 119 #[] w fun e w' => e = .returned (.agg (cells powT).toArray) ∧ Below w.heap.size w w' := by
 have hz := zero255
 have h0 : Blk ((w.alloc (Obj.cells (cells Z255).toArray 194)).alloc (Obj.cells (cells Z255).toArray 194)) w.heap.size 194 Z255 := (Blk.new _ _ _).alloc _
 have h1 : Blk ((w.alloc (Obj.cells (cells Z255).toArray 194)).alloc (Obj.cells (cells Z255).toArray 194)) (w.heap.size + 1) 194 (fillAt pw Z255 0) := by
  rw [fillAt_zero]; exact Blk.new_at _ _ _ _ _ (by simp) rfl
 have hb0 : Below w.heap.size w ((w.alloc (Obj.cells (cells Z255).toArray 194)).alloc (Obj.cells (cells Z255).toArray 194)) := ((Below.refl _ _).alloc (Nat.le_refl _) _).alloc (by simp) _
 have hp0 : (1 : Int) = ((pw 0).toNat : Int) := by rw [pw_zero]; rfl
 have HP0 := Lib.hid hp0
 clear hp0
 go_enter Tryz.func119, Tryz.ntmps119
 go_wp2
 go_loopw [2, 4] (fun vp vi wr => ∃ k : Nat, k ≤ 255 ∧ (k < 255 → vp = .int .u8 ((pw k).toNat : Int)) ∧ (∃ p : Int, vp = .int .u8 p) ∧ vi = .int .i64 k ∧ Blk wr w.heap.size 194 Z255 ∧ Blk wr (w.heap.size + 1) 194 (fillAt pw Z255 k) ∧ Below w.heap.size w wr) (fun _ i _ => 255 - (intOf i).toNat)
 case atStart => exact ⟨0, by omega, fun _ => by rw [← HP0.out], ⟨1, rfl⟩, rfl, h0, h1, hb0⟩
 case round =>
  clear h0 h1 hb0
  obtain ⟨k, hk, hvp, ⟨p, hp⟩, rfl, h0, h1, hb⟩ := hrel
  by_cases hlt : k < 255
  · have := hvp hlt
    subst hp
    injection this with _ hpe
    subst hpe
    clear hvp
    have hl := fillAt_len pw Z255 k (by rw [Z255_len]; omega)
    have hcell := h1.cell (j := k) (by rw [hl, Z255_len]; exact hlt)
    have hfr := h1.frozen k
    have hs := h1.set_ k (pw k)
    rw [fillAt_step pw Z255 k (by rw [Z255_len]; exact hlt)] at hs
    have hs0 := h0.far (p := ⟨w.heap.size + 1, k, none⟩) (by simp) (.int .u8 ((pw k).toNat : Int))
    have hbs := hb.setCell (p := ⟨w.heap.size + 1, k, none⟩) (by simp) (.int .u8 ((pw k).toNat : Int))
    have hx := xr8 (pw k) (dbl (pw k))
    have hnx : k + 1 < 255 → pw (k + 1) = pw k ^^^ dbl (pw k) := fun h => pw_succ k (by omega)
    have htw := fun wx => twice_any (pw k) ((pw k).toNat : Int) wx rfl
    obtain ⟨P, hP⟩ : ∃ P, P = pw k := ⟨_, rfl⟩
    rw [← hP] at hs hs0 hbs hx hnx htw ⊢
    obtain ⟨y, hy⟩ : ∃ y : Int, y = (((fillAt pw Z255 k).getD k 0).toNat : Int) := ⟨_, rfl⟩
    rw [← hy] at hcell
    obtain ⟨D, hD⟩ : ∃ D, D = dbl P := ⟨_, rfl⟩
    rw [← hD] at hx hnx htw
    have HT := Lib.hid htw
    have HN := Lib.hid hnx
    have HX := Lib.hid hx
    have hPl := P.toNat_lt
    have hDl := D.toNat_lt
    clear htw hnx hx hl hP hy hD
    go_wp2_with (first
     | (go_at_call 121; ((with_reducible refine (Hid.out HT _).mono ?_); rintro e w' ⟨rfl, rfl⟩)))
    go_roundw
    case rel => exact ⟨k + 1, by omega, fun h => by rw [HN.out h, ← HX.out], ⟨_, rfl⟩, by go_num, hs0, hs, hbs⟩
    case measure => simp [intOf]; omega
  · obtain rfl : k = 255 := by omega
    have hpow : fillAt pw Z255 255 = powT := by rw [fillAt_all pw Z255 255 Z255_len]; exact list_tab powT powT_len
    rw [hpow] at h1
    have hL : (cells powT).length = 255 := by rw [length_cells, powT_len]
    have hZL : (cells Z255).length = 255 := by rw [length_cells, Z255_len]
    have HL := Lib.hid hL
    have HZL := Lib.hid hZL
    subst hp
    clear hpow hvp hL hZL
    go_wp2_with (first
     | (with_reducible refine wpList_ld rfl 194 (.tmp 1) rfl (w.heap.size + 1) 0 rfl (cells powT) (h1.v.range 0 _ (by simp)) (row255 HL.out) ?_)
     | ((with_reducible refine wpList_st rfl 194 (.tmp 0) (.tmp 15) rfl w.heap.size 0 (cells powT) rfl rfl 194 _ h0.v (by rw [HL.out, HZL.out]; omega) (row255 HL.out) (cells_one _) ?_); intro w2 hB2 ho2))
    rw [splice_all _ _ (by rw [HL.out, HZL.out])] at hB2
    exact ret_row (by rfl) (by rfl) hB2 (row255 HL.out) (by rfl) ⟨rfl, hb.trans (ho2.below (Nat.le_refl _))⟩
end Go.Proofs.YtmkeioeodlidgaaGreatDoor

namespace Go.Proofs.YtmkeioeodlidgaaGreatDoor
open Go.RowKit

theorem run_index_cells {P : Program} (t e : TypeId) (n : Nat) (h : P.underlying t = some (.array n e)) (he : P.underlying e = some (.int .u8)) (hs : ∀ w, (sizeOf e).run P w = .ok 1 w) (bs : List UInt8) (hl : bs.length = n) (k : Nat) (hk : k < n) (w : World) :
 (Instr.index t (.agg (cells bs).toArray) (.int .i64 (k : Int))).run P w = .ok (.int .u8 ((bs.getD k 0).toNat : Int)) w := by
 have hc : (cells bs).toArray[k]? = some (.int .u8 ((bs.getD k 0).toNat : Int)) := by
  rw [List.getElem?_toArray]; exact cells_at (by omega)
 have h1 : 0 ≤ (k : Int) ∧ (k : Int) < (n : Int) := by omega
 simp only [Instr.index, asIntOf, Sem.run_bind, Sem.run_pure, Result.andThen_ok, run_underlying h, h1, and_self, if_true, hs, part, isAgg, run_underlying he, Int.toNat_natCast, Nat.mul_one, hc]
 simp
section
variable {P : Program} {w : World} {ops : Array Oper} {rest : List Oper} {op : Oper} {a : Act} {Q : Exit → Act → World → Prop}
theorem wpList_acut2 (hgd : op.guard = none) (t : TypeId) (x lo hi : Operand) (ho : op.op = .slice t x (some lo) (some hi) none) (ht : P.underlying t = some (.array (P.arrayLen t) (P.elem t))) (hs : ∀ w, (sizeOf (P.elem t)).run P w = .ok 1 w)
 (N : Nat) (hN : P.arrayLen t = N) (g o : Nat) (hx : a.eval x = .pointer (some ⟨g, o, none⟩)) (l h : Nat) (i j : Int) (hlo : a.eval lo = .int .i64 i) (hhi : a.eval hi = .int .i64 j) (hi1 : i = (l : Int)) (hj1 : j = (h : Int)) (hlh : l ≤ h) (hl : l < N) (hh : h ≤ N)
 (hK : wpList P ops Q rest (a.put op.dst (.slice (some ⟨g, o + l, none⟩) (h - l) (N - l))) w) : wpList P ops Q (op :: rest) a w := by
 subst hi1; subst hj1
 refine wpList_plain hgd fun K hK2 => ?_
 unfold Oper.wp execOp
 simp only [ho, hx, Option.map_some, Option.map_none, hlo, hhi, Sem.run_bind, run_sliceAt_array_lh w t ⟨g, o, none⟩ ht .i64 .i64 (l : Int) (h : Int) (by omega) (by omega) (by omega), hs, Result.andThen_ok, Sem.run_pure, slicedAt, Int.toNat_natCast, hN, add_lit, Nat.mul_one]
 rw [if_neg (by omega)]
 exact hK2 _ _ hK
theorem wpList_toarr (hgd : op.guard = none) (arr e : TypeId) (n : Nat) (x : Operand) (ho : op.op = .sliceToArrayPointer arr x) (ht : P.underlying arr = some (.array n e)) (A : Option Addr) (len cap : Nat) (hx : a.eval x = .slice A len cap) (hn : n ≤ len)
 (hK : wpList P ops Q rest (a.put op.dst (.pointer A)) w) : wpList P ops Q (op :: rest) a w := by
 refine wpList_plain hgd fun K hK2 => ?_
 unfold Oper.wp execOp
 simp only [ho, hx, Sem.run_bind, run_arrayAt _ arr e n A len cap ht hn, Result.andThen_ok, Sem.run_pure]
 exact hK2 _ _ hK
theorem wpList_built1 (hgd : op.guard = none) (t : TypeId) (i : Nat) (x : Operand) (ho : op.op = .build t #[(i, x)]) (u v : Value) (hx : a.eval x = u) (hr : (Instr.build t #[(i, u)]).run P w = .ok v w)
 (hK : wpList P ops Q rest (a.put op.dst v) w) : wpList P ops Q (op :: rest) a w := by
 refine wpList_plain hgd fun K hK2 => ?_
 unfold Oper.wp execOp
 simp only [ho, List.map_toArray, List.map_cons, List.map_nil, hx, Sem.run_bind, hr, Result.andThen_ok, Sem.run_pure]
 exact hK2 _ _ hK
end
end Go.Proofs.YtmkeioeodlidgaaGreatDoor
