/- Several texts in one: plain words and walks. No statement is proved here. -/
import Derived.Test.YtmkeioeodlidgaaGreatDoorZM6
import Derived.Deep.RegionHeld3
namespace Go.Proofs.YtmkeioeodlidgaaGreatDoor
open List renaming getElem_toArray → xgT, getElem_cons_succ → xgS, getElem_cons_zero → xgZ, setIfInBounds_toArray → xsT, set_cons_succ → xsS, set_cons_zero → xsZ
open Go.RowKit
set_option linter.unusedVariables false

theorem len43 : Tryz.prog.arrayLen 138 = 64 := by kernel_rfl
theorem und22 : Tryz.prog.underlying 35 = some (.slice (Tryz.prog.elem 35)) := by kernel_rfl
theorem und43 : Tryz.prog.underlying 138 = some (.array (Tryz.prog.arrayLen 138) (Tryz.prog.elem 138)) := by kernel_rfl
theorem sz22 (w : World) : (sizeOf (Tryz.prog.elem 35)).run Tryz.prog w = .ok 1 w := by kernel_rfl
theorem sz43 (w : World) : (sizeOf (Tryz.prog.elem 138)).run Tryz.prog w = .ok 1 w := by kernel_rfl

def lenS : Value → Nat
 | .slice _ n _ => n
 | _ => 0


theorem grown_drewH {w w' : World} {row : Option Nat} (h : w.grownBy w' row) : w.grownBy w'.drew row := ⟨h.os, h.tape, h.output, h.size, h.block⟩

theorem withBlock_lit (s s2 : S5) (b : List UInt8) (w : World) (hs : s.ok) (hl : b.length = 64) (h2 : s2 = blockW s b) :
 Calls Tryz.prog 106 #[.agg #[.int .u32 (s.a : Int), .int .u32 (s.b : Int), .int .u32 (s.c : Int), .int .u32 (s.d : Int), .int .u32 (s.e : Int)], .agg (cells b).toArray] w fun e w' => e = .returned (.agg #[.int .u32 (s2.a : Int), .int .u32 (s2.b : Int), .int .u32 (s2.c : Int), .int .u32 (s2.d : Int), .int .u32 (s2.e : Int)]) ∧ Below w.heap.size w w' := by
 have := withBlock_any s b w hs hl
 rw [← h2] at this
 exact this

set_option maxRecDepth 100000 in
set_option maxHeartbeats 400000 in
theorem write_anyH (p : Nat) (m bs : List UInt8) (A : Option Addr) (nb c : Nat) (w : World) (ht : TabH w) (hp : 0 < p) (hst : StIs w p m) (hr : RdS w A nb c bs) (ho : OffN A nb p) (hle : m.length + nb ≤ 1000000) :
 Calls Tryz.prog 95 #[.pointer (some ⟨p, 0, none⟩), .slice A nb c] w fun e w' => e = .returned (.tuple #[]) ∧ StIs w' p (m ++ bs) ∧ w.grownBy w' (some p) := by
 have hlen := hr.len
 have htr : w.rangeAt 0 0 (c32 h0.l) := ht
 obtain ⟨s0, r0, hl0, hB, hm⟩ := hst
 have hsz := (hB.cell 69).trans (stC_atSize s0 r0 m.length hl0)
 have hfz := hB.frozen 69
 have HLE := Lib.hid hle
 have HLN := Lib.hid hlen
 clear hle hlen
 by_cases hm0 : m = []
 · have hsz0 : w.cell? ⟨p, 69, none⟩ = some (.int .i64 0) := by rw [hm0] at hsz; exact hsz
   have HM0 := Lib.hid hm0
   clear hsz hm hm0
   go_enter Tryz.func95, Tryz.ntmps95
   go_wp2_with (first
    | (with_reducible refine wpList_ld rfl 173 (.global 0) rfl 0 0 rfl (c32 h0.l) htr (row5 (by simp [c32_len, S5.l])) ?_)
    | (with_reducible refine wpList_st rfl 173 (.tmp 16) (.tmp 14) rfl p 0 (c32 h0.l) rfl rfl 175 _ hB (by rw [stC_len _ _ _ hl0]; simp [c32_len, S5.l]) (row5 (by simp [c32_len, S5.l])) (c32_one _) ?_; intro w2 hB2 ho2))
   rw [stC_words] at hB2
   have hI : StInv w2 p m := ⟨h0, r0, by rw [HM0.out]; exact Inv.start r0 hl0, hB2⟩
   have hr2 : RdS w2 A nb c bs := hr.keep ho2.grown (fun q hq => by injection hq with hq; exact hq ▸ ho)
   have hg2 := ho2.grown
   clear hB2 ho2 hsz0 hfz hr htr ht hl0 HM0 hB
   simp only [Act.put]
   go_loopw [1] (fun v wr => ∃ (j M : Nat) (A' : Option Addr) (c' : Nat), Hid (j + M = nb) ∧ v = .slice A' M c' ∧ RdS wr A' M c' (bs.drop j) ∧ OffN A' M p ∧ StInv wr p (m ++ bs.take j) ∧ w.grownBy wr (some p)) (fun v _ => lenS v)
   case atStart => exact ⟨0, nb, A, c, Lib.hid (by omega), rfl, hr2, ho, by simpa using hI, hg2⟩
   case round =>
    clear hr2 ho hI hg2
    obtain ⟨j, M, A', c', hjM, rfl, hrr, hor, hI, hg⟩ := hrel
    by_cases hlt : 0 < M
    · obtain ⟨s, r, hinv, hB⟩ := hI
      have hrl := hinv.1
      have hsok := hinv.ok
      obtain ⟨N, hN⟩ : ∃ N, N = (m ++ bs.take j).length := ⟨_, rfl⟩
      have hNj : N = m.length + j := by
       have h1 := hjM.out
       have h2 := HLN.out
       rw [hN, List.length_append, List.length_take]
       omega
      have hNM : (N : Int) + M ≤ 1000000 := by
       have h1 := hjM.out
       have h2 := HLE.out
       omega
      obtain ⟨a, ha⟩ : ∃ a, a = (m ++ bs.take j).length % 64 := ⟨_, rfl⟩
      obtain ⟨k, hk⟩ : ∃ k, k = min M (64 - a) := ⟨_, rfl⟩
      have ha64 : a < 64 := by omega
      have hk0 : 0 < k := by omega
      have hk1 : k ≤ M := by omega
      have hk2 : a + k ≤ 64 := by omega
      have hxl : ((bs.drop j).take k).length = k := by
       have h1 := hjM.out
       have h2 := HLN.out
       rw [List.length_take, List.length_drop]
       omega
      have haN : (N : Int) % 64 = (a : Int) := by omega
      have hnext : m ++ bs.take j ++ (bs.drop j).take k = m ++ bs.take (j + k) := by rw [List.append_assoc, List.take_add]
      have hNk : N + k = (m ++ bs.take (j + k)).length := by rw [← hnext, List.length_append, hxl, ← hN]
      have hdd : (bs.drop j).drop k = bs.drop (j + k) := by rw [List.drop_drop]
      obtain ⟨x, hx⟩ : ∃ x, x = (bs.drop j).take k := ⟨_, rfl⟩
      rw [← hx] at hxl hnext
      have hrl' : (splice r a x).length = 64 := by rw [length_splice _ _ _ (by omega)]; exact hrl
      have hcp : ∀ w3, BlkV w3 p 175 (splice (stC s r N) (5 + a) (cells ((bs.drop j).take k))) → BlkV w3 p 175 (stC s (splice r a x) N) := by
       intro w3 h3
       rw [← hx, stC_rest s r N a x hrl (by omega)] at h3
       exact h3
      rw [← hN] at hB
      have hsz := (hB.cell 69).trans (stC_atSize s r N hrl)
      have hmk : k = min M (64 - a) := hk
      have hnew : Hid (j + k + (M - k) = nb) := Lib.hid (by have h1 := hjM.out; omega)
      have HCP := Lib.hid hcp
      have HMK := Lib.hid hmk
      have HXL := Lib.hid hxl
      have HRL := Lib.hid hrl
      have HRL' := Lib.hid hrl'
      have HNX := Lib.hid hnext
      have HNK := Lib.hid hNk
      have HN := Lib.hid hN
      have HA := Lib.hid ha
      have HDD := Lib.hid hdd
      have HINV := Lib.hid hinv
      have hml : (stC s r N).length = 70 := stC_len s r N hrl
      have HML := Lib.hid hml
      have hMi : (0 : Int) < (M : Int) := by omega
      clear hcp hmk hk hxl hrl hrl' hnext hNk hN ha hdd hinv hx hml hNj
      rcases Nat.lt_or_ge (a + k) 64 with hpart | hfull
      · have hp2 : ((a : Int) + k == 64) = false := by simp; omega
        go_wp2_with (first
         | (with_reducible refine wpList_acut rfl 138 (.tmp 27) (.tmp 28) rfl und43 sz43 64 len43 p 5 rfl a _ rfl haN ha64 ?_)
         | (with_reducible refine wpList_cp rfl (.tmp 29) (.tmp 30) rfl Tryz.underlying35 u8_info p (5 + a) (64 - a) (64 - a) 175 (stC s r N) rfl hB A' M c' (bs.drop j) rfl hrr (by rw [HML.out]; omega) k HMK.out hk0 ?_; intro w3 hB3 ho3; have hB4 := Hid.out HCP w3 hB3; have hsz3 := (hB4.cell 69).trans (stC_atSize _ _ _ HRL'.out); have hfz3 := hB4.frozen 69; have hr3 := hrr.keep ho3.grown (fun q hq => by injection hq with hq; exact hq ▸ hor))
         | (with_reducible refine wpList_cut rfl 35 (.tmp 32) (.tmp 33) rfl und22 sz22 A' M c' (bs.drop j) rfl k _ rfl rfl hr3 hk1 ?_; intro A2 hr4 ho4))
        have ho4s : OffN A2 (M - k) p := fun h => ho4 p (hor (by omega))
        have hS := hB4.set_ 69 (.int .i64 (((N : Int) + k)))
        have hcast : (Value.int IntKind.i64 ((N : Int) + k)) = .int .i64 ((N + k : Nat) : Int) := by simp
        rw [hcast, stC_size _ _ _ _ HRL'.out, ← hcast] at hS
        have hO := ho3.trans (Only.set w3 p 69 (.int .i64 ((N : Int) + k)))
        have hR := hr4.keep (Only.set w3 p 69 (.int .i64 ((N : Int) + k))).grown (fun q hq => by injection hq with hq; exact hq ▸ ho4s)
        rw [HDD.out] at hR
        have hG := hg.trans hO.grown
        have hst : StInv (w3.setCell ⟨p, 69, none⟩ (.int .i64 ((N : Int) + k))) p (m ++ bs.take (j + k)) := by
         refine ⟨s, splice r a x, ?_, by rw [← HNK.out]; exact hS⟩
         rw [← HNX.out, HA.out]
         exact HINV.out.part (by rw [← HA.out, HXL.out]; exact hpart)
        go_roundw
        case rel => exact ⟨j + k, M - k, A2, c' - k, hnew, rfl, hR, ho4s, hst, hG⟩
        case measure => simp [lenS]; omega
      · have hf2 : (a : Int) + k = 64 := by omega
        go_wp2_with (first
         | (with_reducible refine wpList_acut rfl 138 (.tmp 27) (.tmp 28) rfl und43 sz43 64 len43 p 5 rfl a _ rfl haN ha64 ?_)
         | (with_reducible refine wpList_cp rfl (.tmp 29) (.tmp 30) rfl Tryz.underlying35 u8_info p (5 + a) (64 - a) (64 - a) 175 (stC s r N) rfl hB A' M c' (bs.drop j) rfl hrr (by rw [HML.out]; omega) k HMK.out hk0 ?_; intro w3 hB3 ho3; have hB4 := Hid.out HCP w3 hB3; have hsz3 := (hB4.cell 69).trans (stC_atSize _ _ _ HRL'.out); have hfz3 := hB4.frozen 69; have hr3 := hrr.keep ho3.grown (fun q hq => by injection hq with hq; exact hq ▸ hor))
         | (with_reducible refine wpList_cut rfl 35 (.tmp 32) (.tmp 33) rfl und22 sz22 A' M c' (bs.drop j) rfl k _ rfl rfl hr3 hk1 ?_; intro A2 hr4 ho4))
        have ho4s : OffN A2 (M - k) p := fun h => ho4 p (hor (by omega))
        have hS := hB4.set_ 69 (.int .i64 (((N : Int) + k)))
        have hcast : (Value.int IntKind.i64 ((N : Int) + k)) = .int .i64 ((N + k : Nat) : Int) := by simp
        rw [hcast, stC_size _ _ _ _ HRL'.out, ← hcast] at hS
        have hO := ho3.trans (Only.set w3 p 69 (.int .i64 ((N : Int) + k)))
        have hR := hr4.keep (Only.set w3 p 69 (.int .i64 ((N : Int) + k))).grown (fun q hq => by injection hq with hq; exact hq ▸ ho4s)
        rw [HDD.out] at hR
        have hG := hg.trans hO.grown
        clear hcast hsz3 hfz3 hB3 hB4 hr3 hr4 ho3 hB hrr hsz hg
        obtain ⟨w4, hw4⟩ : ∃ w4, w4 = w3.setCell ⟨p, 69, none⟩ (.int .i64 ((N : Int) + k)) := ⟨_, rfl⟩
        rw [← hw4] at hS hO hR hG ⊢
        clear hw4
        have hst : Inv (blockW s (splice r a x)) (splice r a x) (m ++ bs.take (j + k)) := by
         rw [← HNX.out, HA.out]
         exact HINV.out.full (by rw [← HA.out, HXL.out]; omega)
        obtain ⟨r2, hr2e⟩ : ∃ r2, r2 = splice r a x := ⟨_, rfl⟩
        rw [← hr2e] at hS hst HRL'
        obtain ⟨s2, hs2e⟩ : ∃ s2, s2 = blockW s r2 := ⟨_, rfl⟩
        have hwb := fun wx => withBlock_lit s s2 r2 wx hsok HRL'.out hs2e
        rw [← hs2e] at hst
        clear hr2e hs2e
        have HWB := Lib.hid hwb
        have hra1 : w4.drew.rangeAt p 0 (c32 s.l) := hS.range 0 _ (fun i hi => stC_atWords s r2 _ i hi)
        have hra2 : w4.drew.rangeAt p 5 (cells r2) := hS.range 5 _ (fun i hi => stC_atRest s r2 _ i hi)
        have hS' : BlkV w4.drew p 175 (stC s r2 (N + k)) := hS
        have hR' : RdS w4.drew A2 (M - k) (c' - k) (bs.drop (j + k)) := hR
        have hG' : w.grownBy w4.drew (some p) := grown_drewH hG
        clear hwb hO hS hR hG
        refine wp_region_noPanic ?_
        refine wp_region_any (by kernel_rfl) ?_
        change wpAny _ _ _ _ _ _ _ (World.drew _)
        refine wpAny_take (i := 0) (v := ?_) rfl (by kernel_rfl) (by kernel_rfl) (by kernel_rfl) (fun _ _ _ h => h) (Or.inl ⟨by rfl, ?_⟩) ?_
        case refine_2 => (intro wz; go_simp; with_reducible rfl)
        simp only [Act.put, xgT, xgZ, xsT, xsS, xsZ]
        refine wpAny_take (i := 1) (v := ?_) rfl (by kernel_rfl) (by kernel_rfl) (by kernel_rfl) (fun _ _ _ h => h) (Or.inl ⟨by rfl, ?_⟩) ?_
        case refine_2 => (intro wz; go_simp; with_reducible rfl)
        simp only [Act.put, xgT, xgS, xgZ, xsT, xsS, xsZ]
        refine wpAny_take (i := 5) (v := ?_) rfl (by kernel_rfl) (by kernel_rfl) (by kernel_rfl) (fun _ _ _ h => h) (Or.inl ⟨by rfl, ?_⟩) ?_
        case refine_2 => (intro wz; go_simp; with_reducible rfl)
        simp only [Act.put, xgT, xgS, xgZ, xsT, xsS, xsZ]
        refine wpAny_take (i := 2) (v := ?_) rfl (by kernel_rfl) (by kernel_rfl) (by kernel_rfl) (fun _ _ _ h => h) (Or.inl ⟨by rfl, ?_⟩) ?_
        case refine_2 => (intro wz; go_simp; with_reducible rfl)
        simp only [Act.put, xgT, xgS, xgZ, xsT, xsS, xsZ]
        refine wpAny_take (i := 6) (v := ?_) rfl (by kernel_rfl) (by kernel_rfl) (by kernel_rfl) (fun _ _ _ h => h) (Or.inl ⟨by rfl, ?_⟩) ?_
        case refine_2 => (intro wz; go_simp; with_reducible rfl)
        simp only [Act.put, xgT, xgS, xgZ, xsT, xsS, xsZ]
        refine wpAny_take (i := 3) (v := ?_) rfl (by kernel_rfl) (by kernel_rfl) (by kernel_rfl) (fun _ _ _ h => h) (Or.inl ⟨by rfl, ?_⟩) ?_
        case refine_2 => (intro wz; go_simp; with_reducible rfl)
        simp only [Act.put, xgT, xgS, xgZ, xsT, xsS, xsZ]
        refine wpAny_take (i := 7) (v := ?_) rfl (by kernel_rfl) (by kernel_rfl) (by kernel_rfl) (fun _ _ _ h => h) (Or.inl ⟨by rfl, ?_⟩) ?_
        case refine_2 => (intro wz; go_simp; with_reducible rfl)
        simp only [Act.put, xgT, xgS, xgZ, xsT, xsS, xsZ]
        refine any_two (i := 4) (j := 8) (by kernel_rfl) rfl rfl rfl rfl (fun K hK => ?_) (fun K hK => ?_)
        · simp only [xgT, xgS, xgZ]
          refine wp_ld 173 (.tmp 50) rfl p 0 (by rfl) (c32 s.l) hra1 (row5 (by simp [c32_len, S5.l])) ?_
          refine hK _ _ ?_
          clear hK K
          simp only [Act.put, xsT, xsS, xsZ]
          refine any_one (i := 8) (by kernel_rfl) rfl rfl (fun K hK => ?_)
          simp only [xgT, xgS, xgZ]
          refine wp_ld 138 (.tmp 54) rfl p 5 (by rfl) (cells r2) hra2 (row64 (by rw [length_cells]; exact HRL'.out)) ?_
          refine hK _ _ ?_
          clear hK K
          simp only [Act.put, xsT, xsS, xsZ]
          refine any_one (i := 9) (by kernel_rfl) rfl rfl (fun K hK => ?_)
          simp only [xgT, xgS, xgZ]
          go_simp
          refine (Hid.out HWB _).mono ?_
          rintro e w6 ⟨rfl, hb6⟩
          refine hK _ _ ?_
          clear hK K
          have hS6 := hS'.below hb6 hS'.lt
          have hg6 := grown_of_below hb6 (some p)
          have hR6 := hR'.keep hg6 (fun q hq => by injection hq with hq; exact hq ▸ ho4s)
          refine wpAny_take (i := 10) (v := ?_) rfl (by kernel_rfl) (by kernel_rfl) (by kernel_rfl) (fun _ _ _ h => h) (Or.inl ⟨by rfl, ?_⟩) ?_
          case refine_2 => (intro wz; go_simp; with_reducible rfl)
          simp only [Act.put, xgT, xgS, xgZ, xsT, xsS, xsZ]
          refine wpAny_take (i := 11) (v := ?_) rfl (by kernel_rfl) (by kernel_rfl) (by kernel_rfl) (fun _ _ _ h => h) (Or.inl ⟨by rfl, ?_⟩) ?_
          case refine_2 => (intro wz; go_simp; with_reducible rfl)
          simp only [Act.put, xgT, xgS, xgZ, xsT, xsS, xsZ]
          refine any_one (i := 12) (by kernel_rfl) rfl rfl (fun K hK => ?_)
          simp only [xgT, xgS, xgZ]
          refine wp_st 173 (.tmp 58) (.tmp 56) rfl p 0 (c32 s2.l) (by rfl) (by rfl) 175 _ hS6 (by rw [stC_len _ _ _ HRL'.out]; simp [c32_len, S5.l]) (row5 (by simp [c32_len, S5.l])) (c32_one _) ?_
          intro w7 hB7 ho7
          refine hK _ _ ?_
          clear hK K
          refine wpAny_done (by kernel_rfl) ?_ _
          refine NoPanic.normal ?_
          rw [stC_words] at hB7
          have hst7 : StInv w7 p (m ++ bs.take (j + k)) := ⟨s2, r2, hst, by rw [← HNK.out]; exact hB7⟩
          have hR7 := hR6.keep ho7.grown (fun q hq => by injection hq with hq; exact hq ▸ ho4s)
          have hG7 := (hG'.trans hg6).trans ho7.grown
          clear hB7 hS6 hb6 hg6 hR6 ho7 hS' hR' hG' hra1 hra2 HWB hsok HINV HCP hst
          simp only [Act.put]
          go_wp2
          go_roundw
          case rel => exact ⟨j + k, M - k, A2, c' - k, hnew, rfl, hR7, ho4s, hst7, hG7⟩
          case measure => simp [lenS]; omega
        · simp only [xgT, xgS, xgZ]
          refine wp_ld 138 (.tmp 54) rfl p 5 (by rfl) (cells r2) hra2 (row64 (by rw [length_cells]; exact HRL'.out)) ?_
          refine hK _ _ ?_
          clear hK K
          simp only [Act.put, xsT, xsS, xsZ]
          refine any_one (i := 4) (by kernel_rfl) rfl rfl (fun K hK => ?_)
          simp only [xgT, xgS, xgZ]
          refine wp_ld 173 (.tmp 50) rfl p 0 (by rfl) (c32 s.l) hra1 (row5 (by simp [c32_len, S5.l])) ?_
          refine hK _ _ ?_
          clear hK K
          simp only [Act.put, xsT, xsS, xsZ]
          refine any_one (i := 9) (by kernel_rfl) rfl rfl (fun K hK => ?_)
          simp only [xgT, xgS, xgZ]
          go_simp
          refine (Hid.out HWB _).mono ?_
          rintro e w6 ⟨rfl, hb6⟩
          refine hK _ _ ?_
          clear hK K
          have hS6 := hS'.below hb6 hS'.lt
          have hg6 := grown_of_below hb6 (some p)
          have hR6 := hR'.keep hg6 (fun q hq => by injection hq with hq; exact hq ▸ ho4s)
          refine wpAny_take (i := 10) (v := ?_) rfl (by kernel_rfl) (by kernel_rfl) (by kernel_rfl) (fun _ _ _ h => h) (Or.inl ⟨by rfl, ?_⟩) ?_
          case refine_2 => (intro wz; go_simp; with_reducible rfl)
          simp only [Act.put, xgT, xgS, xgZ, xsT, xsS, xsZ]
          refine wpAny_take (i := 11) (v := ?_) rfl (by kernel_rfl) (by kernel_rfl) (by kernel_rfl) (fun _ _ _ h => h) (Or.inl ⟨by rfl, ?_⟩) ?_
          case refine_2 => (intro wz; go_simp; with_reducible rfl)
          simp only [Act.put, xgT, xgS, xgZ, xsT, xsS, xsZ]
          refine any_one (i := 12) (by kernel_rfl) rfl rfl (fun K hK => ?_)
          simp only [xgT, xgS, xgZ]
          refine wp_st 173 (.tmp 58) (.tmp 56) rfl p 0 (c32 s2.l) (by rfl) (by rfl) 175 _ hS6 (by rw [stC_len _ _ _ HRL'.out]; simp [c32_len, S5.l]) (row5 (by simp [c32_len, S5.l])) (c32_one _) ?_
          intro w7 hB7 ho7
          refine hK _ _ ?_
          clear hK K
          refine wpAny_done (by kernel_rfl) ?_ _
          refine NoPanic.normal ?_
          rw [stC_words] at hB7
          have hst7 : StInv w7 p (m ++ bs.take (j + k)) := ⟨s2, r2, hst, by rw [← HNK.out]; exact hB7⟩
          have hR7 := hR6.keep ho7.grown (fun q hq => by injection hq with hq; exact hq ▸ ho4s)
          have hG7 := (hG'.trans hg6).trans ho7.grown
          clear hB7 hS6 hb6 hg6 hR6 ho7 hS' hR' hG' hra1 hra2 HWB hsok HINV HCP hst
          simp only [Act.put]
          go_wp2
          go_roundw
          case rel => exact ⟨j + k, M - k, A2, c' - k, hnew, rfl, hR7, ho4s, hst7, hG7⟩
          case measure => simp [lenS]; omega
    · have hM0 : M = 0 := by omega
      have hjn : bs.take j = bs := List.take_of_length_le (by
       have h1 := hjM.out
       have h2 := HLN.out
       omega)
      rw [hjn] at hI
      have hfin := hI.is
      subst hM0
      clear hjn hI hrr hor
      go_wp2
      go_end0
      exact ⟨rfl, hfin, hg⟩
 · have hI : StInv w p m := ⟨s0, r0, hm hm0, hB⟩
   have hne : ((m.length : Int) == 0) = false := by
    have : m.length ≠ 0 := fun h => hm0 (List.eq_nil_of_length_eq_zero h)
    simp; omega
   have hg2 := World.grownBy.refl w (some p)
   clear hm hm0 hl0 htr ht
   go_enter Tryz.func95, Tryz.ntmps95
   go_wp2
   clear hsz hfz hB hne
   have hr2 := hr
   clear hr
   go_loopw [1] (fun v wr => ∃ (j M : Nat) (A' : Option Addr) (c' : Nat), Hid (j + M = nb) ∧ v = .slice A' M c' ∧ RdS wr A' M c' (bs.drop j) ∧ OffN A' M p ∧ StInv wr p (m ++ bs.take j) ∧ w.grownBy wr (some p)) (fun v _ => lenS v)
   case atStart => exact ⟨0, nb, A, c, Lib.hid (by omega), rfl, hr2, ho, by simpa using hI, hg2⟩
   case round =>
    clear hr2 ho hI hg2
    obtain ⟨j, M, A', c', hjM, rfl, hrr, hor, hI, hg⟩ := hrel
    by_cases hlt : 0 < M
    · obtain ⟨s, r, hinv, hB⟩ := hI
      have hrl := hinv.1
      have hsok := hinv.ok
      obtain ⟨N, hN⟩ : ∃ N, N = (m ++ bs.take j).length := ⟨_, rfl⟩
      have hNj : N = m.length + j := by
       have h1 := hjM.out
       have h2 := HLN.out
       rw [hN, List.length_append, List.length_take]
       omega
      have hNM : (N : Int) + M ≤ 1000000 := by
       have h1 := hjM.out
       have h2 := HLE.out
       omega
      obtain ⟨a, ha⟩ : ∃ a, a = (m ++ bs.take j).length % 64 := ⟨_, rfl⟩
      obtain ⟨k, hk⟩ : ∃ k, k = min M (64 - a) := ⟨_, rfl⟩
      have ha64 : a < 64 := by omega
      have hk0 : 0 < k := by omega
      have hk1 : k ≤ M := by omega
      have hk2 : a + k ≤ 64 := by omega
      have hxl : ((bs.drop j).take k).length = k := by
       have h1 := hjM.out
       have h2 := HLN.out
       rw [List.length_take, List.length_drop]
       omega
      have haN : (N : Int) % 64 = (a : Int) := by omega
      have hnext : m ++ bs.take j ++ (bs.drop j).take k = m ++ bs.take (j + k) := by rw [List.append_assoc, List.take_add]
      have hNk : N + k = (m ++ bs.take (j + k)).length := by rw [← hnext, List.length_append, hxl, ← hN]
      have hdd : (bs.drop j).drop k = bs.drop (j + k) := by rw [List.drop_drop]
      obtain ⟨x, hx⟩ : ∃ x, x = (bs.drop j).take k := ⟨_, rfl⟩
      rw [← hx] at hxl hnext
      have hrl' : (splice r a x).length = 64 := by rw [length_splice _ _ _ (by omega)]; exact hrl
      have hcp : ∀ w3, BlkV w3 p 175 (splice (stC s r N) (5 + a) (cells ((bs.drop j).take k))) → BlkV w3 p 175 (stC s (splice r a x) N) := by
       intro w3 h3
       rw [← hx, stC_rest s r N a x hrl (by omega)] at h3
       exact h3
      rw [← hN] at hB
      have hsz := (hB.cell 69).trans (stC_atSize s r N hrl)
      have hmk : k = min M (64 - a) := hk
      have hnew : Hid (j + k + (M - k) = nb) := Lib.hid (by have h1 := hjM.out; omega)
      have HCP := Lib.hid hcp
      have HMK := Lib.hid hmk
      have HXL := Lib.hid hxl
      have HRL := Lib.hid hrl
      have HRL' := Lib.hid hrl'
      have HNX := Lib.hid hnext
      have HNK := Lib.hid hNk
      have HN := Lib.hid hN
      have HA := Lib.hid ha
      have HDD := Lib.hid hdd
      have HINV := Lib.hid hinv
      have hml : (stC s r N).length = 70 := stC_len s r N hrl
      have HML := Lib.hid hml
      have hMi : (0 : Int) < (M : Int) := by omega
      clear hcp hmk hk hxl hrl hrl' hnext hNk hN ha hdd hinv hx hml hNj
      rcases Nat.lt_or_ge (a + k) 64 with hpart | hfull
      · have hp2 : ((a : Int) + k == 64) = false := by simp; omega
        go_wp2_with (first
         | (with_reducible refine wpList_acut rfl 138 (.tmp 27) (.tmp 28) rfl und43 sz43 64 len43 p 5 rfl a _ rfl haN ha64 ?_)
         | (with_reducible refine wpList_cp rfl (.tmp 29) (.tmp 30) rfl Tryz.underlying35 u8_info p (5 + a) (64 - a) (64 - a) 175 (stC s r N) rfl hB A' M c' (bs.drop j) rfl hrr (by rw [HML.out]; omega) k HMK.out hk0 ?_; intro w3 hB3 ho3; have hB4 := Hid.out HCP w3 hB3; have hsz3 := (hB4.cell 69).trans (stC_atSize _ _ _ HRL'.out); have hfz3 := hB4.frozen 69; have hr3 := hrr.keep ho3.grown (fun q hq => by injection hq with hq; exact hq ▸ hor))
         | (with_reducible refine wpList_cut rfl 35 (.tmp 32) (.tmp 33) rfl und22 sz22 A' M c' (bs.drop j) rfl k _ rfl rfl hr3 hk1 ?_; intro A2 hr4 ho4))
        have ho4s : OffN A2 (M - k) p := fun h => ho4 p (hor (by omega))
        have hS := hB4.set_ 69 (.int .i64 (((N : Int) + k)))
        have hcast : (Value.int IntKind.i64 ((N : Int) + k)) = .int .i64 ((N + k : Nat) : Int) := by simp
        rw [hcast, stC_size _ _ _ _ HRL'.out, ← hcast] at hS
        have hO := ho3.trans (Only.set w3 p 69 (.int .i64 ((N : Int) + k)))
        have hR := hr4.keep (Only.set w3 p 69 (.int .i64 ((N : Int) + k))).grown (fun q hq => by injection hq with hq; exact hq ▸ ho4s)
        rw [HDD.out] at hR
        have hG := hg.trans hO.grown
        have hst : StInv (w3.setCell ⟨p, 69, none⟩ (.int .i64 ((N : Int) + k))) p (m ++ bs.take (j + k)) := by
         refine ⟨s, splice r a x, ?_, by rw [← HNK.out]; exact hS⟩
         rw [← HNX.out, HA.out]
         exact HINV.out.part (by rw [← HA.out, HXL.out]; exact hpart)
        go_roundw
        case rel => exact ⟨j + k, M - k, A2, c' - k, hnew, rfl, hR, ho4s, hst, hG⟩
        case measure => simp [lenS]; omega
      · have hf2 : (a : Int) + k = 64 := by omega
        go_wp2_with (first
         | (with_reducible refine wpList_acut rfl 138 (.tmp 27) (.tmp 28) rfl und43 sz43 64 len43 p 5 rfl a _ rfl haN ha64 ?_)
         | (with_reducible refine wpList_cp rfl (.tmp 29) (.tmp 30) rfl Tryz.underlying35 u8_info p (5 + a) (64 - a) (64 - a) 175 (stC s r N) rfl hB A' M c' (bs.drop j) rfl hrr (by rw [HML.out]; omega) k HMK.out hk0 ?_; intro w3 hB3 ho3; have hB4 := Hid.out HCP w3 hB3; have hsz3 := (hB4.cell 69).trans (stC_atSize _ _ _ HRL'.out); have hfz3 := hB4.frozen 69; have hr3 := hrr.keep ho3.grown (fun q hq => by injection hq with hq; exact hq ▸ hor))
         | (with_reducible refine wpList_cut rfl 35 (.tmp 32) (.tmp 33) rfl und22 sz22 A' M c' (bs.drop j) rfl k _ rfl rfl hr3 hk1 ?_; intro A2 hr4 ho4))
        have ho4s : OffN A2 (M - k) p := fun h => ho4 p (hor (by omega))
        have hS := hB4.set_ 69 (.int .i64 (((N : Int) + k)))
        have hcast : (Value.int IntKind.i64 ((N : Int) + k)) = .int .i64 ((N + k : Nat) : Int) := by simp
        rw [hcast, stC_size _ _ _ _ HRL'.out, ← hcast] at hS
        have hO := ho3.trans (Only.set w3 p 69 (.int .i64 ((N : Int) + k)))
        have hR := hr4.keep (Only.set w3 p 69 (.int .i64 ((N : Int) + k))).grown (fun q hq => by injection hq with hq; exact hq ▸ ho4s)
        rw [HDD.out] at hR
        have hG := hg.trans hO.grown
        clear hcast hsz3 hfz3 hB3 hB4 hr3 hr4 ho3 hB hrr hsz hg
        obtain ⟨w4, hw4⟩ : ∃ w4, w4 = w3.setCell ⟨p, 69, none⟩ (.int .i64 ((N : Int) + k)) := ⟨_, rfl⟩
        rw [← hw4] at hS hO hR hG ⊢
        clear hw4
        have hst : Inv (blockW s (splice r a x)) (splice r a x) (m ++ bs.take (j + k)) := by
         rw [← HNX.out, HA.out]
         exact HINV.out.full (by rw [← HA.out, HXL.out]; omega)
        obtain ⟨r2, hr2e⟩ : ∃ r2, r2 = splice r a x := ⟨_, rfl⟩
        rw [← hr2e] at hS hst HRL'
        obtain ⟨s2, hs2e⟩ : ∃ s2, s2 = blockW s r2 := ⟨_, rfl⟩
        have hwb := fun wx => withBlock_lit s s2 r2 wx hsok HRL'.out hs2e
        rw [← hs2e] at hst
        clear hr2e hs2e
        have HWB := Lib.hid hwb
        have hra1 : w4.drew.rangeAt p 0 (c32 s.l) := hS.range 0 _ (fun i hi => stC_atWords s r2 _ i hi)
        have hra2 : w4.drew.rangeAt p 5 (cells r2) := hS.range 5 _ (fun i hi => stC_atRest s r2 _ i hi)
        have hS' : BlkV w4.drew p 175 (stC s r2 (N + k)) := hS
        have hR' : RdS w4.drew A2 (M - k) (c' - k) (bs.drop (j + k)) := hR
        have hG' : w.grownBy w4.drew (some p) := grown_drewH hG
        clear hwb hO hS hR hG
        refine wp_region_noPanic ?_
        refine wp_region_any (by kernel_rfl) ?_
        change wpAny _ _ _ _ _ _ _ (World.drew _)
        refine wpAny_take (i := 0) (v := ?_) rfl (by kernel_rfl) (by kernel_rfl) (by kernel_rfl) (fun _ _ _ h => h) (Or.inl ⟨by rfl, ?_⟩) ?_
        case refine_2 => (intro wz; go_simp; with_reducible rfl)
        simp only [Act.put, xgT, xgZ, xsT, xsS, xsZ]
        refine wpAny_take (i := 1) (v := ?_) rfl (by kernel_rfl) (by kernel_rfl) (by kernel_rfl) (fun _ _ _ h => h) (Or.inl ⟨by rfl, ?_⟩) ?_
        case refine_2 => (intro wz; go_simp; with_reducible rfl)
        simp only [Act.put, xgT, xgS, xgZ, xsT, xsS, xsZ]
        refine wpAny_take (i := 5) (v := ?_) rfl (by kernel_rfl) (by kernel_rfl) (by kernel_rfl) (fun _ _ _ h => h) (Or.inl ⟨by rfl, ?_⟩) ?_
        case refine_2 => (intro wz; go_simp; with_reducible rfl)
        simp only [Act.put, xgT, xgS, xgZ, xsT, xsS, xsZ]
        refine wpAny_take (i := 2) (v := ?_) rfl (by kernel_rfl) (by kernel_rfl) (by kernel_rfl) (fun _ _ _ h => h) (Or.inl ⟨by rfl, ?_⟩) ?_
        case refine_2 => (intro wz; go_simp; with_reducible rfl)
        simp only [Act.put, xgT, xgS, xgZ, xsT, xsS, xsZ]
        refine wpAny_take (i := 6) (v := ?_) rfl (by kernel_rfl) (by kernel_rfl) (by kernel_rfl) (fun _ _ _ h => h) (Or.inl ⟨by rfl, ?_⟩) ?_
        case refine_2 => (intro wz; go_simp; with_reducible rfl)
        simp only [Act.put, xgT, xgS, xgZ, xsT, xsS, xsZ]
        refine wpAny_take (i := 3) (v := ?_) rfl (by kernel_rfl) (by kernel_rfl) (by kernel_rfl) (fun _ _ _ h => h) (Or.inl ⟨by rfl, ?_⟩) ?_
        case refine_2 => (intro wz; go_simp; with_reducible rfl)
        simp only [Act.put, xgT, xgS, xgZ, xsT, xsS, xsZ]
        refine wpAny_take (i := 7) (v := ?_) rfl (by kernel_rfl) (by kernel_rfl) (by kernel_rfl) (fun _ _ _ h => h) (Or.inl ⟨by rfl, ?_⟩) ?_
        case refine_2 => (intro wz; go_simp; with_reducible rfl)
        simp only [Act.put, xgT, xgS, xgZ, xsT, xsS, xsZ]
        refine any_two (i := 4) (j := 8) (by kernel_rfl) rfl rfl rfl rfl (fun K hK => ?_) (fun K hK => ?_)
        · simp only [xgT, xgS, xgZ]
          refine wp_ld 173 (.tmp 50) rfl p 0 (by rfl) (c32 s.l) hra1 (row5 (by simp [c32_len, S5.l])) ?_
          refine hK _ _ ?_
          clear hK K
          simp only [Act.put, xsT, xsS, xsZ]
          refine any_one (i := 8) (by kernel_rfl) rfl rfl (fun K hK => ?_)
          simp only [xgT, xgS, xgZ]
          refine wp_ld 138 (.tmp 54) rfl p 5 (by rfl) (cells r2) hra2 (row64 (by rw [length_cells]; exact HRL'.out)) ?_
          refine hK _ _ ?_
          clear hK K
          simp only [Act.put, xsT, xsS, xsZ]
          refine any_one (i := 9) (by kernel_rfl) rfl rfl (fun K hK => ?_)
          simp only [xgT, xgS, xgZ]
          go_simp
          refine (Hid.out HWB _).mono ?_
          rintro e w6 ⟨rfl, hb6⟩
          refine hK _ _ ?_
          clear hK K
          have hS6 := hS'.below hb6 hS'.lt
          have hg6 := grown_of_below hb6 (some p)
          have hR6 := hR'.keep hg6 (fun q hq => by injection hq with hq; exact hq ▸ ho4s)
          refine wpAny_take (i := 10) (v := ?_) rfl (by kernel_rfl) (by kernel_rfl) (by kernel_rfl) (fun _ _ _ h => h) (Or.inl ⟨by rfl, ?_⟩) ?_
          case refine_2 => (intro wz; go_simp; with_reducible rfl)
          simp only [Act.put, xgT, xgS, xgZ, xsT, xsS, xsZ]
          refine wpAny_take (i := 11) (v := ?_) rfl (by kernel_rfl) (by kernel_rfl) (by kernel_rfl) (fun _ _ _ h => h) (Or.inl ⟨by rfl, ?_⟩) ?_
          case refine_2 => (intro wz; go_simp; with_reducible rfl)
          simp only [Act.put, xgT, xgS, xgZ, xsT, xsS, xsZ]
          refine any_one (i := 12) (by kernel_rfl) rfl rfl (fun K hK => ?_)
          simp only [xgT, xgS, xgZ]
          refine wp_st 173 (.tmp 58) (.tmp 56) rfl p 0 (c32 s2.l) (by rfl) (by rfl) 175 _ hS6 (by rw [stC_len _ _ _ HRL'.out]; simp [c32_len, S5.l]) (row5 (by simp [c32_len, S5.l])) (c32_one _) ?_
          intro w7 hB7 ho7
          refine hK _ _ ?_
          clear hK K
          refine wpAny_done (by kernel_rfl) ?_ _
          refine NoPanic.normal ?_
          rw [stC_words] at hB7
          have hst7 : StInv w7 p (m ++ bs.take (j + k)) := ⟨s2, r2, hst, by rw [← HNK.out]; exact hB7⟩
          have hR7 := hR6.keep ho7.grown (fun q hq => by injection hq with hq; exact hq ▸ ho4s)
          have hG7 := (hG'.trans hg6).trans ho7.grown
          clear hB7 hS6 hb6 hg6 hR6 ho7 hS' hR' hG' hra1 hra2 HWB hsok HINV HCP hst
          simp only [Act.put]
          go_wp2
          go_roundw
          case rel => exact ⟨j + k, M - k, A2, c' - k, hnew, rfl, hR7, ho4s, hst7, hG7⟩
          case measure => simp [lenS]; omega
        · simp only [xgT, xgS, xgZ]
          refine wp_ld 138 (.tmp 54) rfl p 5 (by rfl) (cells r2) hra2 (row64 (by rw [length_cells]; exact HRL'.out)) ?_
          refine hK _ _ ?_
          clear hK K
          simp only [Act.put, xsT, xsS, xsZ]
          refine any_one (i := 4) (by kernel_rfl) rfl rfl (fun K hK => ?_)
          simp only [xgT, xgS, xgZ]
          refine wp_ld 173 (.tmp 50) rfl p 0 (by rfl) (c32 s.l) hra1 (row5 (by simp [c32_len, S5.l])) ?_
          refine hK _ _ ?_
          clear hK K
          simp only [Act.put, xsT, xsS, xsZ]
          refine any_one (i := 9) (by kernel_rfl) rfl rfl (fun K hK => ?_)
          simp only [xgT, xgS, xgZ]
          go_simp
          refine (Hid.out HWB _).mono ?_
          rintro e w6 ⟨rfl, hb6⟩
          refine hK _ _ ?_
          clear hK K
          have hS6 := hS'.below hb6 hS'.lt
          have hg6 := grown_of_below hb6 (some p)
          have hR6 := hR'.keep hg6 (fun q hq => by injection hq with hq; exact hq ▸ ho4s)
          refine wpAny_take (i := 10) (v := ?_) rfl (by kernel_rfl) (by kernel_rfl) (by kernel_rfl) (fun _ _ _ h => h) (Or.inl ⟨by rfl, ?_⟩) ?_
          case refine_2 => (intro wz; go_simp; with_reducible rfl)
          simp only [Act.put, xgT, xgS, xgZ, xsT, xsS, xsZ]
          refine wpAny_take (i := 11) (v := ?_) rfl (by kernel_rfl) (by kernel_rfl) (by kernel_rfl) (fun _ _ _ h => h) (Or.inl ⟨by rfl, ?_⟩) ?_
          case refine_2 => (intro wz; go_simp; with_reducible rfl)
          simp only [Act.put, xgT, xgS, xgZ, xsT, xsS, xsZ]
          refine any_one (i := 12) (by kernel_rfl) rfl rfl (fun K hK => ?_)
          simp only [xgT, xgS, xgZ]
          refine wp_st 173 (.tmp 58) (.tmp 56) rfl p 0 (c32 s2.l) (by rfl) (by rfl) 175 _ hS6 (by rw [stC_len _ _ _ HRL'.out]; simp [c32_len, S5.l]) (row5 (by simp [c32_len, S5.l])) (c32_one _) ?_
          intro w7 hB7 ho7
          refine hK _ _ ?_
          clear hK K
          refine wpAny_done (by kernel_rfl) ?_ _
          refine NoPanic.normal ?_
          rw [stC_words] at hB7
          have hst7 : StInv w7 p (m ++ bs.take (j + k)) := ⟨s2, r2, hst, by rw [← HNK.out]; exact hB7⟩
          have hR7 := hR6.keep ho7.grown (fun q hq => by injection hq with hq; exact hq ▸ ho4s)
          have hG7 := (hG'.trans hg6).trans ho7.grown
          clear hB7 hS6 hb6 hg6 hR6 ho7 hS' hR' hG' hra1 hra2 HWB hsok HINV HCP hst
          simp only [Act.put]
          go_wp2
          go_roundw
          case rel => exact ⟨j + k, M - k, A2, c' - k, hnew, rfl, hR7, ho4s, hst7, hG7⟩
          case measure => simp [lenS]; omega
    · have hM0 : M = 0 := by omega
      have hjn : bs.take j = bs := List.take_of_length_le (by
       have h1 := hjM.out
       have h2 := HLN.out
       omega)
      rw [hjn] at hI
      have hfin := hI.is
      subst hM0
      clear hjn hI hrr hor
      go_wp2
      go_end0
      exact ⟨rfl, hfin, hg⟩
end Go.Proofs.YtmkeioeodlidgaaGreatDoor
