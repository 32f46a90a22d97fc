/- KeysDerive's walk: what is derived of any master by any label is the document's; of fewer bytes it is the beginning of what is of more. -/
import Derived.Test.YtmfceenkndjjoaaKeyAll
import Derived.BigQuiet
namespace Go.Proofs.Ytmfceenkndjjoaa
open Go.RowKit
set_option linter.unusedVariables false

theorem RdS.headK {w : World} {A : Option Addr} {n c : Nat} {bs : List UInt8} (h : RdS w A n c bs) (m d : Nat) (hm : m ≤ n) (hd : m ≤ d) (hdc : d ≤ c) : RdS w A m d (bs.take m) := by
  obtain ⟨h1, h2, h3, h4, h5⟩ := h
  refine ⟨by rw [List.length_take]; omega, hd, by omega, fun h0 => by have := h4 h0; omega, fun hn => ?_⟩
  obtain ⟨b, off, hA, hlt, hc⟩ := h5 (by omega)
  refine ⟨b, off, hA, hlt, fun j hj => ?_⟩
  rw [hc j (by omega)]
  simp [List.getD, hj]
theorem conv_rdK {w : World} {A : Option Addr} {n c : Nat} {bs : List UInt8} (h : RdS w A n c bs) : (convert 27 9 (.slice A n c)).run Try.prog w = .ok (.string (txt bs)) w :=
  run_conv h 27 9 5 Try.underlying27 Try.underlying5 Try.underlying9

set_option maxRecDepth 100000 in
set_option maxHeartbeats 2000000 in
theorem keysDerive_big (key salt : List UInt8) (li n : Int) (w : World) (h : 600 < n) :
    Calls Try.prog 3 #[.agg (cells (mst key salt)).toArray, .int .u8 li, .int .i64 n] w fun e w' => e = .returned (.bool true) ∧ Below w.heap.size w w' := by
  have hE0 := menv_start w (mst key salt)
  obtain ⟨M, hM⟩ : ∃ M, M = mst key salt := ⟨_, rfl⟩
  rw [← hM] at hE0 ⊢
  clear hM
  go_enter Try.func3, Try.ntmps3
  go_wp2_with (first
    | (go_at_call 5; ((with_reducible refine (aliveK_any _).mono ?_); rintro e w1 ⟨rfl, hb1⟩)))
  go_ret
  exact ⟨rfl, (hE0.below hb1).b⟩

set_option maxRecDepth 100000 in
set_option maxHeartbeats 4000000 in
theorem keysDerive_some (key salt : List UInt8) (l : Nat) (n : Int) (w : World) (hk : key.length = 16) (hs : salt.length = 14) (hl : l < 256) (hn : n ≤ 600) :
    Calls Try.prog 3 #[.agg (cells (mst key salt)).toArray, .int .u8 (l : Int), .int .i64 n] w fun e w' => e = .returned (.bool true) ∧ Below w.heap.size w w' := by
  have hE0 := menv_start w (mst key salt)
  have hml := mst_len key salt hk hs
  obtain ⟨N, hN⟩ : ∃ N, N = n.toNat := ⟨_, rfl⟩
  have hda := fun wx => derive_any key salt l n N wx hk hs hl (by omega) hN
  have hdb : ∀ wx : World, Calls Try.prog 6 #[.agg (cells (mst key salt)).toArray, .int .u8 (l : Int), .int .i64 40] wx fun e w' => ∃ A c', e = .returned (.slice A 40 c') ∧ RdS w' A 40 c' (drv key salt l 40) ∧ Below wx.heap.size wx w' := fun wx => derive_any key salt l 40 40 wx hk hs hl (by omega) rfl
  have hra := fun wx => rderive_any key salt l n N wx hk hs hl (by omega) hN
  have hrb : ∀ wx : World, Calls Try.prog 7 #[.agg (cells (mst key salt)).toArray, .int .u8 (l : Int), .int .i64 40] wx fun e w' => ∃ v, e = .returned v ∧ w'.ownsRow wx.heap.size 5 1 v 40 (cells (drv key salt l 40)) ∧ Below wx.heap.size wx w' := fun wx => rderive_any key salt l 40 40 wx hk hs hl (by omega) rfl
  have hpre : N ≤ 40 → (drv key salt l 40).take N = drv key salt l N := fun h => drv_take key salt l N 40 h
  obtain ⟨a, ha⟩ : ∃ a, a = drv key salt l N := ⟨_, rfl⟩
  obtain ⟨b, hb⟩ : ∃ b, b = drv key salt l 40 := ⟨_, rfl⟩
  simp only [← ha] at hda hra hpre
  simp only [← hb] at hdb hrb hpre
  obtain ⟨Ta, hTa⟩ : ∃ T, T = txt a := ⟨_, rfl⟩
  obtain ⟨Tb, hTb⟩ : ∃ T, T = txt b := ⟨_, rfl⟩
  have hca : ∀ (wx : World) (A : Option Addr) (n c : Nat), RdS wx A n c a → (convert 27 9 (.slice A n c)).run Try.prog wx = .ok (.string Ta) wx := fun wx A n c h => hTa ▸ conv_rdK h
  have hcb : ∀ (wx : World) (A : Option Addr) (n c : Nat), RdS wx A n c b → (convert 27 9 (.slice A n c)).run Try.prog wx = .ok (.string Tb) wx := fun wx A n c h => hTb ▸ conv_rdK h
  obtain ⟨M, hM⟩ : ∃ M, M = mst key salt := ⟨_, rfl⟩
  simp only [← hM] at hda hdb hra hrb hE0 hml ⊢
  have hML : (cells M).length = 30 := by rw [length_cells, hml]
  have HML := Lib.hid hML
  have HDA := Lib.hid hda
  have HDB := Lib.hid hdb
  have HRA := Lib.hid hra
  have HRB := Lib.hid hrb
  have HPRE := Lib.hid hpre
  have HCA := Lib.hid hca
  have HCB := Lib.hid hcb
  have HN := Lib.hid hN
  clear hda hdb hra hrb hpre ha hb hTa hTb hca hcb hM hml hML hk hs hN
  go_enter Try.func3, Try.ntmps3
  go_wp2_with (first
    | (go_at_call 5; ((with_reducible refine (aliveK_any _).mono ?_); rintro e w1 ⟨rfl, hb1⟩; have hE1 := hE0.below hb1; have hE1m := hE1.m))
    | (with_reducible refine wpList_ld rfl 25 (.tmp 3) rfl w.heap.size 0 rfl (cells M) (hE1m.v.range 0 _ (by simp)) (row30 HML.out) ?_)
    | (go_at_call 6; ((with_reducible refine (HDA.out w1).mono ?_); rintro e w2 ⟨A1, c1, rfl, hA2, hb2⟩; have hE2 := hE1.below hb2; have hE2m := hE2.m))
    | (with_reducible refine wpList_ld rfl 25 (.tmp 3) rfl w.heap.size 0 rfl (cells M) (hE2m.v.range 0 _ (by simp)) (row30 HML.out) ?_)
    | (go_at_call 6; ((with_reducible refine (HDB.out w2).mono ?_); rintro e w3 ⟨A2, c2, rfl, hB3, hb3⟩; have hE3 := hE2.below hb3; have hA3 := hA2.below hb3)))
  have hS0 : MEnv w M w3.drew ∧ RdS w3.drew A1 N c1 a ∧ RdS w3.drew A2 40 c2 b := ⟨hE3.below ((Below.refl _ _).drew), hA3.drew, hB3.drew⟩
  clear hE0 hE1 hE1m hb1 hE2 hE2m hA2 hb2 hE3 hA3 hB3 hb3
  refine wp_region_noPanic ?_
  refine wp_region_held (S := fun wx => MEnv w M wx ∧ RdS wx A1 N c1 a ∧ RdS wx A2 40 c2 b) (by kernel_rfl) ?_
  change wpAnyH _ _ _ _ _ _ _ _ (World.drew _)
  generalize w3.drew = x0 at *
  refine wpAnyH_take (i := 0) (v := ?_) rfl (by kernel_rfl) (by kernel_rfl) (by kernel_rfl) (fun _ _ _ h => h) (Or.inl ⟨by rfl, ?_⟩) hS0 ?_
  case refine_2 => (intro wz hz; go_simp; with_reducible rfl)
  simp only [Act.put, List.getElem_toArray, List.getElem_cons_zero, List.setIfInBounds_toArray, List.set_cons_succ, List.set_cons_zero]
  refine wpAnyH_take (i := 1) (v := ?_) rfl (by kernel_rfl) (by kernel_rfl) (by kernel_rfl) (fun _ _ _ h => h) (Or.inl ⟨by rfl, ?_⟩) hS0 ?_
  case refine_2 => (intro wz hz; have hq := HCA.out wz A1 N c1 hz.2.1; go_simp; with_reducible rfl)
  simp only [Act.put, List.getElem_toArray, List.getElem_cons_succ, List.getElem_cons_zero, List.setIfInBounds_toArray, List.set_cons_succ, List.set_cons_zero]
  refine wpAnyH_take (i := 2) (v := .agg (cells M).toArray) rfl (by kernel_rfl) (by kernel_rfl) (by kernel_rfl) (fun _ _ _ h => h) (Or.inl ⟨by rfl, fun wz hz => ?_⟩) hS0 ?_
  · exact run_ld 25 _ rfl w.heap.size 0 (by rfl) (cells M) (hz.1.m.v.range 0 _ (by simp)) (row30 HML.out)
  simp only [Act.put, List.getElem_toArray, List.getElem_cons_succ, List.getElem_cons_zero, List.setIfInBounds_toArray, List.set_cons_succ, List.set_cons_zero]
  refine wpAnyH_take (i := 3) (v := ?_) rfl (by kernel_rfl) (by kernel_rfl) (by kernel_rfl) (fun _ _ _ h => h) (Or.inl ⟨by rfl, ?_⟩) hS0 ?_
  case refine_2 => (intro wz hz; go_simp; with_reducible rfl)
  simp only [Act.put, List.getElem_toArray, List.getElem_cons_succ, List.getElem_cons_zero, List.setIfInBounds_toArray, List.set_cons_succ, List.set_cons_zero]
  refine wpAnyH_take (i := 4) (v := ?_) rfl (by kernel_rfl) (by kernel_rfl) (by kernel_rfl) (fun _ _ _ h => h) (Or.inl ⟨by rfl, ?_⟩) hS0 ?_
  case refine_2 => (intro wz hz; go_simp; with_reducible rfl)
  simp only [Act.put, List.getElem_toArray, List.getElem_cons_succ, List.getElem_cons_zero, List.setIfInBounds_toArray, List.set_cons_succ, List.set_cons_zero]
  refine anyH_one (i := 5) (by kernel_rfl) rfl rfl (fun H hH => ?_)
  simp only [List.getElem_toArray, List.getElem_cons_succ, List.getElem_cons_zero]
  go_simp
  refine (HRA.out x0).mono ?_
  rintro e x1 ⟨v, rfl, hown, hb⟩
  obtain ⟨Av, cv, rfl⟩ := own_form hown
  have hq1 := HCA.out x1 Av N cv (RdS.of_own hown)
  have hS1 : MEnv w M x1 ∧ RdS x1 A1 N c1 a ∧ RdS x1 A2 40 c2 b := ⟨hS0.1.below hb, hS0.2.1.below hb, hS0.2.2.below hb⟩
  refine hH _ _ hS1 ?_
  clear hH H hb hown hS0
  refine anyH_one (i := 6) (by kernel_rfl) rfl rfl (fun H hH => ?_)
  simp only [List.getElem_toArray, List.getElem_cons_succ, List.getElem_cons_zero]
  go_simp
  refine hH _ _ hS1 ?_
  clear hH H hq1
  refine wpAnyH_take (i := 7) (v := ?_) rfl (by kernel_rfl) (by kernel_rfl) (by kernel_rfl) (fun _ _ _ h => h) (Or.inl ⟨by rfl, ?_⟩) hS1 ?_
  case refine_2 => (intro wz hz; go_simp; with_reducible rfl)
  simp only [Act.put, List.getElem_toArray, List.getElem_cons_succ, List.getElem_cons_zero, List.setIfInBounds_toArray, List.set_cons_succ, List.set_cons_zero]
  refine wpAnyH_take (i := 8) (v := ?_) rfl (by kernel_rfl) (by kernel_rfl) (by kernel_rfl) (fun _ _ _ h => h) (Or.inl ⟨by rfl, ?_⟩) hS1 ?_
  case refine_2 => (intro wz hz; go_simp; with_reducible rfl)
  simp only [Act.put, List.getElem_toArray, List.getElem_cons_succ, List.getElem_cons_zero, List.setIfInBounds_toArray, List.set_cons_succ, List.set_cons_zero]
  refine wpAnyH_take (i := 9) (v := ?_) rfl (by kernel_rfl) (by kernel_rfl) (by kernel_rfl) (fun _ _ _ h => h) (Or.inl ⟨by rfl, ?_⟩) hS1 ?_
  case refine_2 => (intro wz hz; go_simp; with_reducible rfl)
  simp only [Act.put, List.getElem_toArray, List.getElem_cons_succ, List.getElem_cons_zero, List.setIfInBounds_toArray, List.set_cons_succ, List.set_cons_zero]
  refine wpAnyH_take (i := 10) (v := ?_) rfl (by kernel_rfl) (by kernel_rfl) (by kernel_rfl) (fun _ _ _ h => h) (Or.inl ⟨by rfl, ?_⟩) hS1 ?_
  case refine_2 => (intro wz hz; have hq := HCB.out wz A2 40 c2 hz.2.2; go_simp; with_reducible rfl)
  simp only [Act.put, List.getElem_toArray, List.getElem_cons_succ, List.getElem_cons_zero, List.setIfInBounds_toArray, List.set_cons_succ, List.set_cons_zero]
  refine wpAnyH_take (i := 11) (v := .agg (cells M).toArray) rfl (by kernel_rfl) (by kernel_rfl) (by kernel_rfl) (fun _ _ _ h => h) (Or.inl ⟨by rfl, fun wz hz => ?_⟩) hS1 ?_
  · exact run_ld 25 _ rfl w.heap.size 0 (by rfl) (cells M) (hz.1.m.v.range 0 _ (by simp)) (row30 HML.out)
  simp only [Act.put, List.getElem_toArray, List.getElem_cons_succ, List.getElem_cons_zero, List.setIfInBounds_toArray, List.set_cons_succ, List.set_cons_zero]
  refine wpAnyH_take (i := 12) (v := ?_) rfl (by kernel_rfl) (by kernel_rfl) (by kernel_rfl) (fun _ _ _ h => h) (Or.inl ⟨by rfl, ?_⟩) hS1 ?_
  case refine_2 => (intro wz hz; go_simp; with_reducible rfl)
  simp only [Act.put, List.getElem_toArray, List.getElem_cons_succ, List.getElem_cons_zero, List.setIfInBounds_toArray, List.set_cons_succ, List.set_cons_zero]
  refine anyH_oneG (i := 13) (by kernel_rfl) rfl (by rfl) (fun H hH => ?_)
  simp only [List.getElem_toArray, List.getElem_cons_succ, List.getElem_cons_zero]
  go_simp
  refine (HRB.out x1).mono ?_
  rintro e x2 ⟨v, rfl, hown, hb⟩
  obtain ⟨Av, cv, rfl⟩ := own_form hown
  have hq2 := HCB.out x2 Av 40 cv (RdS.of_own hown)
  have hS2 : MEnv w M x2 ∧ RdS x2 A1 N c1 a ∧ RdS x2 A2 40 c2 b := ⟨hS1.1.below hb, hS1.2.1.below hb, hS1.2.2.below hb⟩
  refine hH _ _ hS2 ?_
  clear hH H hb hown hS1
  refine anyH_oneG (i := 14) (by kernel_rfl) rfl (by rfl) (fun H hH => ?_)
  simp only [List.getElem_toArray, List.getElem_cons_succ, List.getElem_cons_zero]
  go_simp
  refine hH _ _ hS2 ?_
  clear hH H hq2
  refine wpAnyH_take (i := 15) (v := ?_) rfl (by kernel_rfl) (by kernel_rfl) (by kernel_rfl) (fun _ _ _ h => h) (Or.inl ⟨by rfl, ?_⟩) hS2 ?_
  case refine_2 => (intro wz hz; go_simp; with_reducible rfl)
  simp only [Act.put, List.getElem_toArray, List.getElem_cons_succ, List.getElem_cons_zero, List.setIfInBounds_toArray, List.set_cons_succ, List.set_cons_zero]
  refine wpAnyH_take (i := 16) (v := ?_) rfl (by kernel_rfl) (by kernel_rfl) (by kernel_rfl) (fun _ _ _ h => h) (Or.inl ⟨by rfl, ?_⟩) hS2 ?_
  case refine_2 => (intro wz hz; go_simp; with_reducible rfl)
  simp only [Act.put, List.getElem_toArray, List.getElem_cons_succ, List.getElem_cons_zero, List.setIfInBounds_toArray, List.set_cons_succ, List.set_cons_zero]
  refine wpAnyH_done (by kernel_rfl) ?_ _
  refine NoPanic.normal ?_
  obtain ⟨hM2, hA2, hB2⟩ := hS2
  go_wp2
  by_cases h1 : n < 1
  · have hd : decide (n < 1) = true := by simp; omega
    go_quiet (fail)
    go_wp2
    go_ret
    exact ⟨rfl, hM2.b.os, hM2.b.tape, hM2.b.output, hM2.b.size, hM2.b.block⟩
  · have hd : decide (n < 1) = false := by simp; omega
    by_cases h2 : 40 < n
    · have hd2 : decide ((40 : Int) < n) = true := by simp; omega
      go_quiet (fail)
      go_wp2
      go_ret
      exact ⟨rfl, hM2.b.os, hM2.b.tape, hM2.b.output, hM2.b.size, hM2.b.block⟩
    · obtain rfl : n = (N : Int) := by have := HN.out; omega
      have hd2 : decide ((40 : Int) < (N : Int)) = false := by simp; omega
      have hle := hB2.le
      have hNc : N ≤ c2 := by omega
      have hNci : (N : Int) ≤ (c2 : Int) := by omega
      have hB8 := hB2.headK N c2 (by omega) hNc (Nat.le_refl _)
      rw [HPRE.out (by omega)] at hB8
      have hcv1 := fun k => HCA.out (x2.drewN k) A2 N c2 hB8
      have hcv2 := fun k => HCA.out (x2.drewN k) A1 N c1 hA2
      clear hB8 hA2 hB2
      go_quiet (fail)
      go_wp2
      go_ret
      exact ⟨rfl, hM2.b.os, hM2.b.tape, hM2.b.output, hM2.b.size, hM2.b.block⟩

theorem keysDerive_walk (key salt : List UInt8) (li n : Int) (w : World) (hk : key.length = 16) (hs : salt.length = 14) (w1 : (Lit.int .u8 li).wf = true) :
    Calls Try.prog 3 #[.agg (cells (mst key salt)).toArray, .int .u8 li, .int .i64 n] w fun e w' => e = .returned (.bool true) ∧ Below w.heap.size w w' := by
  by_cases h : 600 < n
  · exact keysDerive_big key salt li n w h
  · have hb := bounds_u8 w1
    obtain ⟨l, rfl⟩ : ∃ l : Nat, li = (l : Int) := ⟨li.toNat, by omega⟩
    exact keysDerive_some key salt l n w hk hs (by omega) (by omega)
end Go.Proofs.Ytmfceenkndjjoaa
