/- Several texts in one: plain words and walks. No statement is proved here. -/
import Derived.Test.YtheefckohnaceaaGreatDoorZM4
import Derived.Deep.RegionHeld3
import Derived.Test.YtheefckohnaceaaGreatDoorZM0
import Derived.Test.YtheefckohnaceaaGreatDoorZM2
namespace Go.Proofs.YtheefckohnaceaaGreatDoor
open List renaming getElem_toArray → xgT, getElem_cons_succ → xgS, getElem_cons_zero → xgZ, setIfInBounds_toArray → xsT, set_cons_succ → xsS, set_cons_zero → xsZ
open Go.RowKit
set_option linter.unusedVariables false

theorem len43 : Tryz.prog.arrayLen 141 = 64 := by kernel_rfl
theorem und22 : Tryz.prog.underlying 32 = some (.slice (Tryz.prog.elem 32)) := by kernel_rfl
theorem und43 : Tryz.prog.underlying 141 = some (.array (Tryz.prog.arrayLen 141) (Tryz.prog.elem 141)) := by kernel_rfl
theorem sz22 (w : World) : (sizeOf (Tryz.prog.elem 32)).run Tryz.prog w = .ok 1 w := by kernel_rfl
theorem sz43 (w : World) : (sizeOf (Tryz.prog.elem 141)).run Tryz.prog w = .ok 1 w := by kernel_rfl

def lenS : Value → Nat
 | .slice _ n _ => n
 | _ => 0


theorem grown_drewH {w w' : World} {row : Option Nat} (h : w.grownBy w' row) : w.grownBy w'.drew row := ⟨h.os, h.tape, h.output, h.size, h.block⟩

theorem withBlock_lit (s s2 : S5) (b : List UInt8) (w : World) (hs : s.ok) (hl : b.length = 64) (h2 : s2 = blockW s b) :
 Calls Tryz.prog 108 #[.agg #[.int .u32 (s.a : Int), .int .u32 (s.b : Int), .int .u32 (s.c : Int), .int .u32 (s.d : Int), .int .u32 (s.e : Int)], .agg (cells b).toArray] w fun e w' => e = .returned (.agg #[.int .u32 (s2.a : Int), .int .u32 (s2.b : Int), .int .u32 (s2.c : Int), .int .u32 (s2.d : Int), .int .u32 (s2.e : Int)]) ∧ Below w.heap.size w w' := by
 have := withBlock_any s b w hs hl
 rw [← h2] at this
 exact this

set_option maxRecDepth 100000 in
set_option maxHeartbeats 400000 in
theorem write_anyH (p : Nat) (m bs : List UInt8) (A : Option Addr) (nb c : Nat) (w : World) (ht : TabH w) (hp : 0 < p) (hst : StIs w p m) (hr : RdS w A nb c bs) (ho : OffN A nb p) (hle : m.length + nb ≤ 1000000) :
 Calls Tryz.prog 92 #[.pointer (some ⟨p, 0, none⟩), .slice A nb c] w fun e w' => e = .returned (.tuple #[]) ∧ StIs w' p (m ++ bs) ∧ w.grownBy w' (some p) := by
 have hlen := hr.len
 have htr : w.rangeAt 1 0 (c32 h0.l) := ht
 obtain ⟨s0, r0, hl0, hB, hm⟩ := hst
 have hsz := (hB.cell 69).trans (stC_atSize s0 r0 m.length hl0)
 have hfz := hB.frozen 69
 have HLE := Lib.hid hle
 have HLN := Lib.hid hlen
 clear hle hlen
 by_cases hm0 : m = []
 · have hsz0 : w.cell? ⟨p, 69, none⟩ = some (.int .i64 0) := by rw [hm0] at hsz; exact hsz
   have HM0 := Lib.hid hm0
   clear hsz hm hm0
   go_enter Tryz.func92, Tryz.ntmps92
   go_wp2_with (first
    | (with_reducible refine wpList_ld rfl 174 (.global 1) rfl 1 0 rfl (c32 h0.l) htr (row5 (by simp [c32_len, S5.l])) ?_)
    | (with_reducible refine wpList_st rfl 174 (.tmp 16) (.tmp 14) rfl p 0 (c32 h0.l) rfl rfl 176 _ hB (by rw [stC_len _ _ _ hl0]; simp [c32_len, S5.l]) (row5 (by simp [c32_len, S5.l])) (c32_one _) ?_; intro w2 hB2 ho2))
   rw [stC_words] at hB2
   have hI : StInv w2 p m := ⟨h0, r0, by rw [HM0.out]; exact Inv.start r0 hl0, hB2⟩
   have hr2 : RdS w2 A nb c bs := hr.keep ho2.grown (fun q hq => by injection hq with hq; exact hq ▸ ho)
   have hg2 := ho2.grown
   clear hB2 ho2 hsz0 hfz hr htr ht hl0 HM0 hB
   simp only [Act.put]
   go_loopw [1] (fun v wr => ∃ (j M : Nat) (A' : Option Addr) (c' : Nat), Hid (j + M = nb) ∧ v = .slice A' M c' ∧ RdS wr A' M c' (bs.drop j) ∧ OffN A' M p ∧ StInv wr p (m ++ bs.take j) ∧ w.grownBy wr (some p)) (fun v _ => lenS v)
   case atStart => exact ⟨0, nb, A, c, Lib.hid (by omega), rfl, hr2, ho, by simpa using hI, hg2⟩
   case round =>
    clear hr2 ho hI hg2
    obtain ⟨j, M, A', c', hjM, rfl, hrr, hor, hI, hg⟩ := hrel
    by_cases hlt : 0 < M
    · obtain ⟨s, r, hinv, hB⟩ := hI
      have hrl := hinv.1
      have hsok := hinv.ok
      obtain ⟨N, hN⟩ : ∃ N, N = (m ++ bs.take j).length := ⟨_, rfl⟩
      have hNj : N = m.length + j := by
       have h1 := hjM.out
       have h2 := HLN.out
       rw [hN, List.length_append, List.length_take]
       omega
      have hNM : (N : Int) + M ≤ 1000000 := by
       have h1 := hjM.out
       have h2 := HLE.out
       omega
      obtain ⟨a, ha⟩ : ∃ a, a = (m ++ bs.take j).length % 64 := ⟨_, rfl⟩
      obtain ⟨k, hk⟩ : ∃ k, k = min M (64 - a) := ⟨_, rfl⟩
      have ha64 : a < 64 := by omega
      have hk0 : 0 < k := by omega
      have hk1 : k ≤ M := by omega
      have hk2 : a + k ≤ 64 := by omega
      have hxl : ((bs.drop j).take k).length = k := by
       have h1 := hjM.out
       have h2 := HLN.out
       rw [List.length_take, List.length_drop]
       omega
      have haN : (N : Int) % 64 = (a : Int) := by omega
      have hnext : m ++ bs.take j ++ (bs.drop j).take k = m ++ bs.take (j + k) := by rw [List.append_assoc, List.take_add]
      have hNk : N + k = (m ++ bs.take (j + k)).length := by rw [← hnext, List.length_append, hxl, ← hN]
      have hdd : (bs.drop j).drop k = bs.drop (j + k) := by rw [List.drop_drop]
      obtain ⟨x, hx⟩ : ∃ x, x = (bs.drop j).take k := ⟨_, rfl⟩
      rw [← hx] at hxl hnext
      have hrl' : (splice r a x).length = 64 := by rw [length_splice _ _ _ (by omega)]; exact hrl
      have hcp : ∀ w3, BlkV w3 p 176 (splice (stC s r N) (5 + a) (cells ((bs.drop j).take k))) → BlkV w3 p 176 (stC s (splice r a x) N) := by
       intro w3 h3
       rw [← hx, stC_rest s r N a x hrl (by omega)] at h3
       exact h3
      rw [← hN] at hB
      have hsz := (hB.cell 69).trans (stC_atSize s r N hrl)
      have hmk : k = min M (64 - a) := hk
      have hnew : Hid (j + k + (M - k) = nb) := Lib.hid (by have h1 := hjM.out; omega)
      have HCP := Lib.hid hcp
      have HMK := Lib.hid hmk
      have HXL := Lib.hid hxl
      have HRL := Lib.hid hrl
      have HRL' := Lib.hid hrl'
      have HNX := Lib.hid hnext
      have HNK := Lib.hid hNk
      have HN := Lib.hid hN
      have HA := Lib.hid ha
      have HDD := Lib.hid hdd
      have HINV := Lib.hid hinv
      have hml : (stC s r N).length = 70 := stC_len s r N hrl
      have HML := Lib.hid hml
      have hMi : (0 : Int) < (M : Int) := by omega
      clear hcp hmk hk hxl hrl hrl' hnext hNk hN ha hdd hinv hx hml hNj
      rcases Nat.lt_or_ge (a + k) 64 with hpart | hfull
      · have hp2 : ((a : Int) + k == 64) = false := by simp; omega
        go_wp2_with (first
         | (with_reducible refine wpList_acut rfl 141 (.tmp 27) (.tmp 28) rfl und43 sz43 64 len43 p 5 rfl a _ rfl haN ha64 ?_)
         | (with_reducible refine wpList_cp rfl (.tmp 29) (.tmp 30) rfl Tryz.underlying32 u8_info p (5 + a) (64 - a) (64 - a) 176 (stC s r N) rfl hB A' M c' (bs.drop j) rfl hrr (by rw [HML.out]; omega) k HMK.out hk0 ?_; intro w3 hB3 ho3; have hB4 := Hid.out HCP w3 hB3; have hsz3 := (hB4.cell 69).trans (stC_atSize _ _ _ HRL'.out); have hfz3 := hB4.frozen 69; have hr3 := hrr.keep ho3.grown (fun q hq => by injection hq with hq; exact hq ▸ hor))
         | (with_reducible refine wpList_cut rfl 32 (.tmp 32) (.tmp 33) rfl und22 sz22 A' M c' (bs.drop j) rfl k _ rfl rfl hr3 hk1 ?_; intro A2 hr4 ho4))
        have ho4s : OffN A2 (M - k) p := fun h => ho4 p (hor (by omega))
        have hS := hB4.set_ 69 (.int .i64 (((N : Int) + k)))
        have hcast : (Value.int IntKind.i64 ((N : Int) + k)) = .int .i64 ((N + k : Nat) : Int) := by simp
        rw [hcast, stC_size _ _ _ _ HRL'.out, ← hcast] at hS
        have hO := ho3.trans (Only.set w3 p 69 (.int .i64 ((N : Int) + k)))
        have hR := hr4.keep (Only.set w3 p 69 (.int .i64 ((N : Int) + k))).grown (fun q hq => by injection hq with hq; exact hq ▸ ho4s)
        rw [HDD.out] at hR
        have hG := hg.trans hO.grown
        have hst : StInv (w3.setCell ⟨p, 69, none⟩ (.int .i64 ((N : Int) + k))) p (m ++ bs.take (j + k)) := by
         refine ⟨s, splice r a x, ?_, by rw [← HNK.out]; exact hS⟩
         rw [← HNX.out, HA.out]
         exact HINV.out.part (by rw [← HA.out, HXL.out]; exact hpart)
        go_roundw
        case rel => exact ⟨j + k, M - k, A2, c' - k, hnew, rfl, hR, ho4s, hst, hG⟩
        case measure => simp [lenS]; omega
      · have hf2 : (a : Int) + k = 64 := by omega
        go_wp2_with (first
         | (with_reducible refine wpList_acut rfl 141 (.tmp 27) (.tmp 28) rfl und43 sz43 64 len43 p 5 rfl a _ rfl haN ha64 ?_)
         | (with_reducible refine wpList_cp rfl (.tmp 29) (.tmp 30) rfl Tryz.underlying32 u8_info p (5 + a) (64 - a) (64 - a) 176 (stC s r N) rfl hB A' M c' (bs.drop j) rfl hrr (by rw [HML.out]; omega) k HMK.out hk0 ?_; intro w3 hB3 ho3; have hB4 := Hid.out HCP w3 hB3; have hsz3 := (hB4.cell 69).trans (stC_atSize _ _ _ HRL'.out); have hfz3 := hB4.frozen 69; have hr3 := hrr.keep ho3.grown (fun q hq => by injection hq with hq; exact hq ▸ hor))
         | (with_reducible refine wpList_cut rfl 32 (.tmp 32) (.tmp 33) rfl und22 sz22 A' M c' (bs.drop j) rfl k _ rfl rfl hr3 hk1 ?_; intro A2 hr4 ho4))
        have ho4s : OffN A2 (M - k) p := fun h => ho4 p (hor (by omega))
        have hS := hB4.set_ 69 (.int .i64 (((N : Int) + k)))
        have hcast : (Value.int IntKind.i64 ((N : Int) + k)) = .int .i64 ((N + k : Nat) : Int) := by simp
        rw [hcast, stC_size _ _ _ _ HRL'.out, ← hcast] at hS
        have hO := ho3.trans (Only.set w3 p 69 (.int .i64 ((N : Int) + k)))
        have hR := hr4.keep (Only.set w3 p 69 (.int .i64 ((N : Int) + k))).grown (fun q hq => by injection hq with hq; exact hq ▸ ho4s)
        rw [HDD.out] at hR
        have hG := hg.trans hO.grown
        clear hcast hsz3 hfz3 hB3 hB4 hr3 hr4 ho3 hB hrr hsz hg
        obtain ⟨w4, hw4⟩ : ∃ w4, w4 = w3.setCell ⟨p, 69, none⟩ (.int .i64 ((N : Int) + k)) := ⟨_, rfl⟩
        rw [← hw4] at hS hO hR hG ⊢
        clear hw4
        have hst : Inv (blockW s (splice r a x)) (splice r a x) (m ++ bs.take (j + k)) := by
         rw [← HNX.out, HA.out]
         exact HINV.out.full (by rw [← HA.out, HXL.out]; omega)
        obtain ⟨r2, hr2e⟩ : ∃ r2, r2 = splice r a x := ⟨_, rfl⟩
        rw [← hr2e] at hS hst HRL'
        obtain ⟨s2, hs2e⟩ : ∃ s2, s2 = blockW s r2 := ⟨_, rfl⟩
        have hwb := fun wx => withBlock_lit s s2 r2 wx hsok HRL'.out hs2e
        rw [← hs2e] at hst
        clear hr2e hs2e
        have HWB := Lib.hid hwb
        have hra1 : w4.drew.rangeAt p 0 (c32 s.l) := hS.range 0 _ (fun i hi => stC_atWords s r2 _ i hi)
        have hra2 : w4.drew.rangeAt p 5 (cells r2) := hS.range 5 _ (fun i hi => stC_atRest s r2 _ i hi)
        have hS' : BlkV w4.drew p 176 (stC s r2 (N + k)) := hS
        have hR' : RdS w4.drew A2 (M - k) (c' - k) (bs.drop (j + k)) := hR
        have hG' : w.grownBy w4.drew (some p) := grown_drewH hG
        clear hwb hO hS hR hG
        refine wp_region_noPanic ?_
        refine wp_region_any (by kernel_rfl) ?_
        change wpAny _ _ _ _ _ _ _ (World.drew _)
        refine wpAny_take (i := 0) (v := ?_) rfl (by kernel_rfl) (by kernel_rfl) (by kernel_rfl) (fun _ _ _ h => h) (Or.inl ⟨by rfl, ?_⟩) ?_
        case refine_2 => (intro wz; go_simp; with_reducible rfl)
        simp only [Act.put, xgT, xgZ, xsT, xsS, xsZ]
        refine wpAny_take (i := 1) (v := ?_) rfl (by kernel_rfl) (by kernel_rfl) (by kernel_rfl) (fun _ _ _ h => h) (Or.inl ⟨by rfl, ?_⟩) ?_
        case refine_2 => (intro wz; go_simp; with_reducible rfl)
        simp only [Act.put, xgT, xgS, xgZ, xsT, xsS, xsZ]
        refine wpAny_take (i := 5) (v := ?_) rfl (by kernel_rfl) (by kernel_rfl) (by kernel_rfl) (fun _ _ _ h => h) (Or.inl ⟨by rfl, ?_⟩) ?_
        case refine_2 => (intro wz; go_simp; with_reducible rfl)
        simp only [Act.put, xgT, xgS, xgZ, xsT, xsS, xsZ]
        refine wpAny_take (i := 2) (v := ?_) rfl (by kernel_rfl) (by kernel_rfl) (by kernel_rfl) (fun _ _ _ h => h) (Or.inl ⟨by rfl, ?_⟩) ?_
        case refine_2 => (intro wz; go_simp; with_reducible rfl)
        simp only [Act.put, xgT, xgS, xgZ, xsT, xsS, xsZ]
        refine wpAny_take (i := 6) (v := ?_) rfl (by kernel_rfl) (by kernel_rfl) (by kernel_rfl) (fun _ _ _ h => h) (Or.inl ⟨by rfl, ?_⟩) ?_
        case refine_2 => (intro wz; go_simp; with_reducible rfl)
        simp only [Act.put, xgT, xgS, xgZ, xsT, xsS, xsZ]
        refine wpAny_take (i := 3) (v := ?_) rfl (by kernel_rfl) (by kernel_rfl) (by kernel_rfl) (fun _ _ _ h => h) (Or.inl ⟨by rfl, ?_⟩) ?_
        case refine_2 => (intro wz; go_simp; with_reducible rfl)
        simp only [Act.put, xgT, xgS, xgZ, xsT, xsS, xsZ]
        refine wpAny_take (i := 7) (v := ?_) rfl (by kernel_rfl) (by kernel_rfl) (by kernel_rfl) (fun _ _ _ h => h) (Or.inl ⟨by rfl, ?_⟩) ?_
        case refine_2 => (intro wz; go_simp; with_reducible rfl)
        simp only [Act.put, xgT, xgS, xgZ, xsT, xsS, xsZ]
        refine any_two (i := 4) (j := 8) (by kernel_rfl) rfl rfl rfl rfl (fun K hK => ?_) (fun K hK => ?_)
        · simp only [xgT, xgS, xgZ]
          refine wp_ld 174 (.tmp 50) rfl p 0 (by rfl) (c32 s.l) hra1 (row5 (by simp [c32_len, S5.l])) ?_
          refine hK _ _ ?_
          clear hK K
          simp only [Act.put, xsT, xsS, xsZ]
          refine any_one (i := 8) (by kernel_rfl) rfl rfl (fun K hK => ?_)
          simp only [xgT, xgS, xgZ]
          refine wp_ld 141 (.tmp 54) rfl p 5 (by rfl) (cells r2) hra2 (row64 (by rw [length_cells]; exact HRL'.out)) ?_
          refine hK _ _ ?_
          clear hK K
          simp only [Act.put, xsT, xsS, xsZ]
          refine any_one (i := 9) (by kernel_rfl) rfl rfl (fun K hK => ?_)
          simp only [xgT, xgS, xgZ]
          go_simp
          refine (Hid.out HWB _).mono ?_
          rintro e w6 ⟨rfl, hb6⟩
          refine hK _ _ ?_
          clear hK K
          have hS6 := hS'.below hb6 hS'.lt
          have hg6 := grown_of_below hb6 (some p)
          have hR6 := hR'.keep hg6 (fun q hq => by injection hq with hq; exact hq ▸ ho4s)
          refine wpAny_take (i := 10) (v := ?_) rfl (by kernel_rfl) (by kernel_rfl) (by kernel_rfl) (fun _ _ _ h => h) (Or.inl ⟨by rfl, ?_⟩) ?_
          case refine_2 => (intro wz; go_simp; with_reducible rfl)
          simp only [Act.put, xgT, xgS, xgZ, xsT, xsS, xsZ]
          refine wpAny_take (i := 11) (v := ?_) rfl (by kernel_rfl) (by kernel_rfl) (by kernel_rfl) (fun _ _ _ h => h) (Or.inl ⟨by rfl, ?_⟩) ?_
          case refine_2 => (intro wz; go_simp; with_reducible rfl)
          simp only [Act.put, xgT, xgS, xgZ, xsT, xsS, xsZ]
          refine any_one (i := 12) (by kernel_rfl) rfl rfl (fun K hK => ?_)
          simp only [xgT, xgS, xgZ]
          refine wp_st 174 (.tmp 58) (.tmp 56) rfl p 0 (c32 s2.l) (by rfl) (by rfl) 176 _ hS6 (by rw [stC_len _ _ _ HRL'.out]; simp [c32_len, S5.l]) (row5 (by simp [c32_len, S5.l])) (c32_one _) ?_
          intro w7 hB7 ho7
          refine hK _ _ ?_
          clear hK K
          refine wpAny_done (by kernel_rfl) ?_ _
          refine NoPanic.normal ?_
          rw [stC_words] at hB7
          have hst7 : StInv w7 p (m ++ bs.take (j + k)) := ⟨s2, r2, hst, by rw [← HNK.out]; exact hB7⟩
          have hR7 := hR6.keep ho7.grown (fun q hq => by injection hq with hq; exact hq ▸ ho4s)
          have hG7 := (hG'.trans hg6).trans ho7.grown
          clear hB7 hS6 hb6 hg6 hR6 ho7 hS' hR' hG' hra1 hra2 HWB hsok HINV HCP hst
          simp only [Act.put]
          go_wp2
          go_roundw
          case rel => exact ⟨j + k, M - k, A2, c' - k, hnew, rfl, hR7, ho4s, hst7, hG7⟩
          case measure => simp [lenS]; omega
        · simp only [xgT, xgS, xgZ]
          refine wp_ld 141 (.tmp 54) rfl p 5 (by rfl) (cells r2) hra2 (row64 (by rw [length_cells]; exact HRL'.out)) ?_
          refine hK _ _ ?_
          clear hK K
          simp only [Act.put, xsT, xsS, xsZ]
          refine any_one (i := 4) (by kernel_rfl) rfl rfl (fun K hK => ?_)
          simp only [xgT, xgS, xgZ]
          refine wp_ld 174 (.tmp 50) rfl p 0 (by rfl) (c32 s.l) hra1 (row5 (by simp [c32_len, S5.l])) ?_
          refine hK _ _ ?_
          clear hK K
          simp only [Act.put, xsT, xsS, xsZ]
          refine any_one (i := 9) (by kernel_rfl) rfl rfl (fun K hK => ?_)
          simp only [xgT, xgS, xgZ]
          go_simp
          refine (Hid.out HWB _).mono ?_
          rintro e w6 ⟨rfl, hb6⟩
          refine hK _ _ ?_
          clear hK K
          have hS6 := hS'.below hb6 hS'.lt
          have hg6 := grown_of_below hb6 (some p)
          have hR6 := hR'.keep hg6 (fun q hq => by injection hq with hq; exact hq ▸ ho4s)
          refine wpAny_take (i := 10) (v := ?_) rfl (by kernel_rfl) (by kernel_rfl) (by kernel_rfl) (fun _ _ _ h => h) (Or.inl ⟨by rfl, ?_⟩) ?_
          case refine_2 => (intro wz; go_simp; with_reducible rfl)
          simp only [Act.put, xgT, xgS, xgZ, xsT, xsS, xsZ]
          refine wpAny_take (i := 11) (v := ?_) rfl (by kernel_rfl) (by kernel_rfl) (by kernel_rfl) (fun _ _ _ h => h) (Or.inl ⟨by rfl, ?_⟩) ?_
          case refine_2 => (intro wz; go_simp; with_reducible rfl)
          simp only [Act.put, xgT, xgS, xgZ, xsT, xsS, xsZ]
          refine any_one (i := 12) (by kernel_rfl) rfl rfl (fun K hK => ?_)
          simp only [xgT, xgS, xgZ]
          refine wp_st 174 (.tmp 58) (.tmp 56) rfl p 0 (c32 s2.l) (by rfl) (by rfl) 176 _ hS6 (by rw [stC_len _ _ _ HRL'.out]; simp [c32_len, S5.l]) (row5 (by simp [c32_len, S5.l])) (c32_one _) ?_
          intro w7 hB7 ho7
          refine hK _ _ ?_
          clear hK K
          refine wpAny_done (by kernel_rfl) ?_ _
          refine NoPanic.normal ?_
          rw [stC_words] at hB7
          have hst7 : StInv w7 p (m ++ bs.take (j + k)) := ⟨s2, r2, hst, by rw [← HNK.out]; exact hB7⟩
          have hR7 := hR6.keep ho7.grown (fun q hq => by injection hq with hq; exact hq ▸ ho4s)
          have hG7 := (hG'.trans hg6).trans ho7.grown
          clear hB7 hS6 hb6 hg6 hR6 ho7 hS' hR' hG' hra1 hra2 HWB hsok HINV HCP hst
          simp only [Act.put]
          go_wp2
          go_roundw
          case rel => exact ⟨j + k, M - k, A2, c' - k, hnew, rfl, hR7, ho4s, hst7, hG7⟩
          case measure => simp [lenS]; omega
    · have hM0 : M = 0 := by omega
      have hjn : bs.take j = bs := List.take_of_length_le (by
       have h1 := hjM.out
       have h2 := HLN.out
       omega)
      rw [hjn] at hI
      have hfin := hI.is
      subst hM0
      clear hjn hI hrr hor
      go_wp2
      go_end0
      exact ⟨rfl, hfin, hg⟩
 · have hI : StInv w p m := ⟨s0, r0, hm hm0, hB⟩
   have hne : ((m.length : Int) == 0) = false := by
    have : m.length ≠ 0 := fun h => hm0 (List.eq_nil_of_length_eq_zero h)
    simp; omega
   have hg2 := World.grownBy.refl w (some p)
   clear hm hm0 hl0 htr ht
   go_enter Tryz.func92, Tryz.ntmps92
   go_wp2
   clear hsz hfz hB hne
   have hr2 := hr
   clear hr
   go_loopw [1] (fun v wr => ∃ (j M : Nat) (A' : Option Addr) (c' : Nat), Hid (j + M = nb) ∧ v = .slice A' M c' ∧ RdS wr A' M c' (bs.drop j) ∧ OffN A' M p ∧ StInv wr p (m ++ bs.take j) ∧ w.grownBy wr (some p)) (fun v _ => lenS v)
   case atStart => exact ⟨0, nb, A, c, Lib.hid (by omega), rfl, hr2, ho, by simpa using hI, hg2⟩
   case round =>
    clear hr2 ho hI hg2
    obtain ⟨j, M, A', c', hjM, rfl, hrr, hor, hI, hg⟩ := hrel
    by_cases hlt : 0 < M
    · obtain ⟨s, r, hinv, hB⟩ := hI
      have hrl := hinv.1
      have hsok := hinv.ok
      obtain ⟨N, hN⟩ : ∃ N, N = (m ++ bs.take j).length := ⟨_, rfl⟩
      have hNj : N = m.length + j := by
       have h1 := hjM.out
       have h2 := HLN.out
       rw [hN, List.length_append, List.length_take]
       omega
      have hNM : (N : Int) + M ≤ 1000000 := by
       have h1 := hjM.out
       have h2 := HLE.out
       omega
      obtain ⟨a, ha⟩ : ∃ a, a = (m ++ bs.take j).length % 64 := ⟨_, rfl⟩
      obtain ⟨k, hk⟩ : ∃ k, k = min M (64 - a) := ⟨_, rfl⟩
      have ha64 : a < 64 := by omega
      have hk0 : 0 < k := by omega
      have hk1 : k ≤ M := by omega
      have hk2 : a + k ≤ 64 := by omega
      have hxl : ((bs.drop j).take k).length = k := by
       have h1 := hjM.out
       have h2 := HLN.out
       rw [List.length_take, List.length_drop]
       omega
      have haN : (N : Int) % 64 = (a : Int) := by omega
      have hnext : m ++ bs.take j ++ (bs.drop j).take k = m ++ bs.take (j + k) := by rw [List.append_assoc, List.take_add]
      have hNk : N + k = (m ++ bs.take (j + k)).length := by rw [← hnext, List.length_append, hxl, ← hN]
      have hdd : (bs.drop j).drop k = bs.drop (j + k) := by rw [List.drop_drop]
      obtain ⟨x, hx⟩ : ∃ x, x = (bs.drop j).take k := ⟨_, rfl⟩
      rw [← hx] at hxl hnext
      have hrl' : (splice r a x).length = 64 := by rw [length_splice _ _ _ (by omega)]; exact hrl
      have hcp : ∀ w3, BlkV w3 p 176 (splice (stC s r N) (5 + a) (cells ((bs.drop j).take k))) → BlkV w3 p 176 (stC s (splice r a x) N) := by
       intro w3 h3
       rw [← hx, stC_rest s r N a x hrl (by omega)] at h3
       exact h3
      rw [← hN] at hB
      have hsz := (hB.cell 69).trans (stC_atSize s r N hrl)
      have hmk : k = min M (64 - a) := hk
      have hnew : Hid (j + k + (M - k) = nb) := Lib.hid (by have h1 := hjM.out; omega)
      have HCP := Lib.hid hcp
      have HMK := Lib.hid hmk
      have HXL := Lib.hid hxl
      have HRL := Lib.hid hrl
      have HRL' := Lib.hid hrl'
      have HNX := Lib.hid hnext
      have HNK := Lib.hid hNk
      have HN := Lib.hid hN
      have HA := Lib.hid ha
      have HDD := Lib.hid hdd
      have HINV := Lib.hid hinv
      have hml : (stC s r N).length = 70 := stC_len s r N hrl
      have HML := Lib.hid hml
      have hMi : (0 : Int) < (M : Int) := by omega
      clear hcp hmk hk hxl hrl hrl' hnext hNk hN ha hdd hinv hx hml hNj
      rcases Nat.lt_or_ge (a + k) 64 with hpart | hfull
      · have hp2 : ((a : Int) + k == 64) = false := by simp; omega
        go_wp2_with (first
         | (with_reducible refine wpList_acut rfl 141 (.tmp 27) (.tmp 28) rfl und43 sz43 64 len43 p 5 rfl a _ rfl haN ha64 ?_)
         | (with_reducible refine wpList_cp rfl (.tmp 29) (.tmp 30) rfl Tryz.underlying32 u8_info p (5 + a) (64 - a) (64 - a) 176 (stC s r N) rfl hB A' M c' (bs.drop j) rfl hrr (by rw [HML.out]; omega) k HMK.out hk0 ?_; intro w3 hB3 ho3; have hB4 := Hid.out HCP w3 hB3; have hsz3 := (hB4.cell 69).trans (stC_atSize _ _ _ HRL'.out); have hfz3 := hB4.frozen 69; have hr3 := hrr.keep ho3.grown (fun q hq => by injection hq with hq; exact hq ▸ hor))
         | (with_reducible refine wpList_cut rfl 32 (.tmp 32) (.tmp 33) rfl und22 sz22 A' M c' (bs.drop j) rfl k _ rfl rfl hr3 hk1 ?_; intro A2 hr4 ho4))
        have ho4s : OffN A2 (M - k) p := fun h => ho4 p (hor (by omega))
        have hS := hB4.set_ 69 (.int .i64 (((N : Int) + k)))
        have hcast : (Value.int IntKind.i64 ((N : Int) + k)) = .int .i64 ((N + k : Nat) : Int) := by simp
        rw [hcast, stC_size _ _ _ _ HRL'.out, ← hcast] at hS
        have hO := ho3.trans (Only.set w3 p 69 (.int .i64 ((N : Int) + k)))
        have hR := hr4.keep (Only.set w3 p 69 (.int .i64 ((N : Int) + k))).grown (fun q hq => by injection hq with hq; exact hq ▸ ho4s)
        rw [HDD.out] at hR
        have hG := hg.trans hO.grown
        have hst : StInv (w3.setCell ⟨p, 69, none⟩ (.int .i64 ((N : Int) + k))) p (m ++ bs.take (j + k)) := by
         refine ⟨s, splice r a x, ?_, by rw [← HNK.out]; exact hS⟩
         rw [← HNX.out, HA.out]
         exact HINV.out.part (by rw [← HA.out, HXL.out]; exact hpart)
        go_roundw
        case rel => exact ⟨j + k, M - k, A2, c' - k, hnew, rfl, hR, ho4s, hst, hG⟩
        case measure => simp [lenS]; omega
      · have hf2 : (a : Int) + k = 64 := by omega
        go_wp2_with (first
         | (with_reducible refine wpList_acut rfl 141 (.tmp 27) (.tmp 28) rfl und43 sz43 64 len43 p 5 rfl a _ rfl haN ha64 ?_)
         | (with_reducible refine wpList_cp rfl (.tmp 29) (.tmp 30) rfl Tryz.underlying32 u8_info p (5 + a) (64 - a) (64 - a) 176 (stC s r N) rfl hB A' M c' (bs.drop j) rfl hrr (by rw [HML.out]; omega) k HMK.out hk0 ?_; intro w3 hB3 ho3; have hB4 := Hid.out HCP w3 hB3; have hsz3 := (hB4.cell 69).trans (stC_atSize _ _ _ HRL'.out); have hfz3 := hB4.frozen 69; have hr3 := hrr.keep ho3.grown (fun q hq => by injection hq with hq; exact hq ▸ hor))
         | (with_reducible refine wpList_cut rfl 32 (.tmp 32) (.tmp 33) rfl und22 sz22 A' M c' (bs.drop j) rfl k _ rfl rfl hr3 hk1 ?_; intro A2 hr4 ho4))
        have ho4s : OffN A2 (M - k) p := fun h => ho4 p (hor (by omega))
        have hS := hB4.set_ 69 (.int .i64 (((N : Int) + k)))
        have hcast : (Value.int IntKind.i64 ((N : Int) + k)) = .int .i64 ((N + k : Nat) : Int) := by simp
        rw [hcast, stC_size _ _ _ _ HRL'.out, ← hcast] at hS
        have hO := ho3.trans (Only.set w3 p 69 (.int .i64 ((N : Int) + k)))
        have hR := hr4.keep (Only.set w3 p 69 (.int .i64 ((N : Int) + k))).grown (fun q hq => by injection hq with hq; exact hq ▸ ho4s)
        rw [HDD.out] at hR
        have hG := hg.trans hO.grown
        clear hcast hsz3 hfz3 hB3 hB4 hr3 hr4 ho3 hB hrr hsz hg
        obtain ⟨w4, hw4⟩ : ∃ w4, w4 = w3.setCell ⟨p, 69, none⟩ (.int .i64 ((N : Int) + k)) := ⟨_, rfl⟩
        rw [← hw4] at hS hO hR hG ⊢
        clear hw4
        have hst : Inv (blockW s (splice r a x)) (splice r a x) (m ++ bs.take (j + k)) := by
         rw [← HNX.out, HA.out]
         exact HINV.out.full (by rw [← HA.out, HXL.out]; omega)
        obtain ⟨r2, hr2e⟩ : ∃ r2, r2 = splice r a x := ⟨_, rfl⟩
        rw [← hr2e] at hS hst HRL'
        obtain ⟨s2, hs2e⟩ : ∃ s2, s2 = blockW s r2 := ⟨_, rfl⟩
        have hwb := fun wx => withBlock_lit s s2 r2 wx hsok HRL'.out hs2e
        rw [← hs2e] at hst
        clear hr2e hs2e
        have HWB := Lib.hid hwb
        have hra1 : w4.drew.rangeAt p 0 (c32 s.l) := hS.range 0 _ (fun i hi => stC_atWords s r2 _ i hi)
        have hra2 : w4.drew.rangeAt p 5 (cells r2) := hS.range 5 _ (fun i hi => stC_atRest s r2 _ i hi)
        have hS' : BlkV w4.drew p 176 (stC s r2 (N + k)) := hS
        have hR' : RdS w4.drew A2 (M - k) (c' - k) (bs.drop (j + k)) := hR
        have hG' : w.grownBy w4.drew (some p) := grown_drewH hG
        clear hwb hO hS hR hG
        refine wp_region_noPanic ?_
        refine wp_region_any (by kernel_rfl) ?_
        change wpAny _ _ _ _ _ _ _ (World.drew _)
        refine wpAny_take (i := 0) (v := ?_) rfl (by kernel_rfl) (by kernel_rfl) (by kernel_rfl) (fun _ _ _ h => h) (Or.inl ⟨by rfl, ?_⟩) ?_
        case refine_2 => (intro wz; go_simp; with_reducible rfl)
        simp only [Act.put, xgT, xgZ, xsT, xsS, xsZ]
        refine wpAny_take (i := 1) (v := ?_) rfl (by kernel_rfl) (by kernel_rfl) (by kernel_rfl) (fun _ _ _ h => h) (Or.inl ⟨by rfl, ?_⟩) ?_
        case refine_2 => (intro wz; go_simp; with_reducible rfl)
        simp only [Act.put, xgT, xgS, xgZ, xsT, xsS, xsZ]
        refine wpAny_take (i := 5) (v := ?_) rfl (by kernel_rfl) (by kernel_rfl) (by kernel_rfl) (fun _ _ _ h => h) (Or.inl ⟨by rfl, ?_⟩) ?_
        case refine_2 => (intro wz; go_simp; with_reducible rfl)
        simp only [Act.put, xgT, xgS, xgZ, xsT, xsS, xsZ]
        refine wpAny_take (i := 2) (v := ?_) rfl (by kernel_rfl) (by kernel_rfl) (by kernel_rfl) (fun _ _ _ h => h) (Or.inl ⟨by rfl, ?_⟩) ?_
        case refine_2 => (intro wz; go_simp; with_reducible rfl)
        simp only [Act.put, xgT, xgS, xgZ, xsT, xsS, xsZ]
        refine wpAny_take (i := 6) (v := ?_) rfl (by kernel_rfl) (by kernel_rfl) (by kernel_rfl) (fun _ _ _ h => h) (Or.inl ⟨by rfl, ?_⟩) ?_
        case refine_2 => (intro wz; go_simp; with_reducible rfl)
        simp only [Act.put, xgT, xgS, xgZ, xsT, xsS, xsZ]
        refine wpAny_take (i := 3) (v := ?_) rfl (by kernel_rfl) (by kernel_rfl) (by kernel_rfl) (fun _ _ _ h => h) (Or.inl ⟨by rfl, ?_⟩) ?_
        case refine_2 => (intro wz; go_simp; with_reducible rfl)
        simp only [Act.put, xgT, xgS, xgZ, xsT, xsS, xsZ]
        refine wpAny_take (i := 7) (v := ?_) rfl (by kernel_rfl) (by kernel_rfl) (by kernel_rfl) (fun _ _ _ h => h) (Or.inl ⟨by rfl, ?_⟩) ?_
        case refine_2 => (intro wz; go_simp; with_reducible rfl)
        simp only [Act.put, xgT, xgS, xgZ, xsT, xsS, xsZ]
        refine any_two (i := 4) (j := 8) (by kernel_rfl) rfl rfl rfl rfl (fun K hK => ?_) (fun K hK => ?_)
        · simp only [xgT, xgS, xgZ]
          refine wp_ld 174 (.tmp 50) rfl p 0 (by rfl) (c32 s.l) hra1 (row5 (by simp [c32_len, S5.l])) ?_
          refine hK _ _ ?_
          clear hK K
          simp only [Act.put, xsT, xsS, xsZ]
          refine any_one (i := 8) (by kernel_rfl) rfl rfl (fun K hK => ?_)
          simp only [xgT, xgS, xgZ]
          refine wp_ld 141 (.tmp 54) rfl p 5 (by rfl) (cells r2) hra2 (row64 (by rw [length_cells]; exact HRL'.out)) ?_
          refine hK _ _ ?_
          clear hK K
          simp only [Act.put, xsT, xsS, xsZ]
          refine any_one (i := 9) (by kernel_rfl) rfl rfl (fun K hK => ?_)
          simp only [xgT, xgS, xgZ]
          go_simp
          refine (Hid.out HWB _).mono ?_
          rintro e w6 ⟨rfl, hb6⟩
          refine hK _ _ ?_
          clear hK K
          have hS6 := hS'.below hb6 hS'.lt
          have hg6 := grown_of_below hb6 (some p)
          have hR6 := hR'.keep hg6 (fun q hq => by injection hq with hq; exact hq ▸ ho4s)
          refine wpAny_take (i := 10) (v := ?_) rfl (by kernel_rfl) (by kernel_rfl) (by kernel_rfl) (fun _ _ _ h => h) (Or.inl ⟨by rfl, ?_⟩) ?_
          case refine_2 => (intro wz; go_simp; with_reducible rfl)
          simp only [Act.put, xgT, xgS, xgZ, xsT, xsS, xsZ]
          refine wpAny_take (i := 11) (v := ?_) rfl (by kernel_rfl) (by kernel_rfl) (by kernel_rfl) (fun _ _ _ h => h) (Or.inl ⟨by rfl, ?_⟩) ?_
          case refine_2 => (intro wz; go_simp; with_reducible rfl)
          simp only [Act.put, xgT, xgS, xgZ, xsT, xsS, xsZ]
          refine any_one (i := 12) (by kernel_rfl) rfl rfl (fun K hK => ?_)
          simp only [xgT, xgS, xgZ]
          refine wp_st 174 (.tmp 58) (.tmp 56) rfl p 0 (c32 s2.l) (by rfl) (by rfl) 176 _ hS6 (by rw [stC_len _ _ _ HRL'.out]; simp [c32_len, S5.l]) (row5 (by simp [c32_len, S5.l])) (c32_one _) ?_
          intro w7 hB7 ho7
          refine hK _ _ ?_
          clear hK K
          refine wpAny_done (by kernel_rfl) ?_ _
          refine NoPanic.normal ?_
          rw [stC_words] at hB7
          have hst7 : StInv w7 p (m ++ bs.take (j + k)) := ⟨s2, r2, hst, by rw [← HNK.out]; exact hB7⟩
          have hR7 := hR6.keep ho7.grown (fun q hq => by injection hq with hq; exact hq ▸ ho4s)
          have hG7 := (hG'.trans hg6).trans ho7.grown
          clear hB7 hS6 hb6 hg6 hR6 ho7 hS' hR' hG' hra1 hra2 HWB hsok HINV HCP hst
          simp only [Act.put]
          go_wp2
          go_roundw
          case rel => exact ⟨j + k, M - k, A2, c' - k, hnew, rfl, hR7, ho4s, hst7, hG7⟩
          case measure => simp [lenS]; omega
        · simp only [xgT, xgS, xgZ]
          refine wp_ld 141 (.tmp 54) rfl p 5 (by rfl) (cells r2) hra2 (row64 (by rw [length_cells]; exact HRL'.out)) ?_
          refine hK _ _ ?_
          clear hK K
          simp only [Act.put, xsT, xsS, xsZ]
          refine any_one (i := 4) (by kernel_rfl) rfl rfl (fun K hK => ?_)
          simp only [xgT, xgS, xgZ]
          refine wp_ld 174 (.tmp 50) rfl p 0 (by rfl) (c32 s.l) hra1 (row5 (by simp [c32_len, S5.l])) ?_
          refine hK _ _ ?_
          clear hK K
          simp only [Act.put, xsT, xsS, xsZ]
          refine any_one (i := 9) (by kernel_rfl) rfl rfl (fun K hK => ?_)
          simp only [xgT, xgS, xgZ]
          go_simp
          refine (Hid.out HWB _).mono ?_
          rintro e w6 ⟨rfl, hb6⟩
          refine hK _ _ ?_
          clear hK K
          have hS6 := hS'.below hb6 hS'.lt
          have hg6 := grown_of_below hb6 (some p)
          have hR6 := hR'.keep hg6 (fun q hq => by injection hq with hq; exact hq ▸ ho4s)
          refine wpAny_take (i := 10) (v := ?_) rfl (by kernel_rfl) (by kernel_rfl) (by kernel_rfl) (fun _ _ _ h => h) (Or.inl ⟨by rfl, ?_⟩) ?_
          case refine_2 => (intro wz; go_simp; with_reducible rfl)
          simp only [Act.put, xgT, xgS, xgZ, xsT, xsS, xsZ]
          refine wpAny_take (i := 11) (v := ?_) rfl (by kernel_rfl) (by kernel_rfl) (by kernel_rfl) (fun _ _ _ h => h) (Or.inl ⟨by rfl, ?_⟩) ?_
          case refine_2 => (intro wz; go_simp; with_reducible rfl)
          simp only [Act.put, xgT, xgS, xgZ, xsT, xsS, xsZ]
          refine any_one (i := 12) (by kernel_rfl) rfl rfl (fun K hK => ?_)
          simp only [xgT, xgS, xgZ]
          refine wp_st 174 (.tmp 58) (.tmp 56) rfl p 0 (c32 s2.l) (by rfl) (by rfl) 176 _ hS6 (by rw [stC_len _ _ _ HRL'.out]; simp [c32_len, S5.l]) (row5 (by simp [c32_len, S5.l])) (c32_one _) ?_
          intro w7 hB7 ho7
          refine hK _ _ ?_
          clear hK K
          refine wpAny_done (by kernel_rfl) ?_ _
          refine NoPanic.normal ?_
          rw [stC_words] at hB7
          have hst7 : StInv w7 p (m ++ bs.take (j + k)) := ⟨s2, r2, hst, by rw [← HNK.out]; exact hB7⟩
          have hR7 := hR6.keep ho7.grown (fun q hq => by injection hq with hq; exact hq ▸ ho4s)
          have hG7 := (hG'.trans hg6).trans ho7.grown
          clear hB7 hS6 hb6 hg6 hR6 ho7 hS' hR' hG' hra1 hra2 HWB hsok HINV HCP hst
          simp only [Act.put]
          go_wp2
          go_roundw
          case rel => exact ⟨j + k, M - k, A2, c' - k, hnew, rfl, hR7, ho4s, hst7, hG7⟩
          case measure => simp [lenS]; omega
    · have hM0 : M = 0 := by omega
      have hjn : bs.take j = bs := List.take_of_length_le (by
       have h1 := hjM.out
       have h2 := HLN.out
       omega)
      rw [hjn] at hI
      have hfin := hI.is
      subst hM0
      clear hjn hI hrr hor
      go_wp2
      go_end0
      exact ⟨rfl, hfin, hg⟩
def zeroS : List Value := stC ⟨0, 0, 0, 0, 0⟩ (List.replicate 64 0) 0
theorem zeroSt (w : World) : (zeroValue 176).run Tryz.prog w = .ok (.agg zeroS.toArray) w := by kernel_rfl
theorem zeroS_is {w : World} {p : Nat} (h : BlkV w p 176 zeroS) : StIs w p [] := ⟨⟨0, 0, 0, 0, 0⟩, List.replicate 64 0, by simp, h, fun h => absurd rfl h⟩
theorem built45 (w : World) : (Instr.build 176 #[]).run Tryz.prog w = .ok (.agg zeroS.toArray) w := by kernel_rfl

theorem new_anyH (w : World) : Calls Tryz.prog 91 #[] w fun e w' => e = .returned (.pointer (some ⟨w.heap.size, 0, none⟩)) ∧ StIs w' w.heap.size [] ∧ Below w.heap.size w w' ∧ w'.heap.size = w.heap.size + 1 := by
 have hb := built45
 have hz := zeroSt
 have hS : StIs (w.alloc (.cells zeroS.toArray 176)) w.heap.size [] := zeroS_is (BlkV.new _ _ _)
 go_enter Tryz.func91, Tryz.ntmps91
 go_wp2
 go_ret
 exact ⟨rfl, hS, (Below.refl _ _).alloc (Nat.le_refl _) _, by simp⟩

theorem off_ne {g o p : Nat} (h : g ≠ p) : Off (some ⟨g, o, none⟩) p := fun ad hA => by injection hA with hA; subst hA; exact h
theorem pad_ne (m : List UInt8) : m ++ padBH m.length ≠ [] := by simp [padBH]
theorem sha_of {s : S5} {r m : List UInt8} (h : Inv s r (m ++ padBH m.length)) : toldN s 20 = shaSum m := by unfold shaSum; rw [h.2.1]
theorem done_base (w w2 : World) (ht : TabH w) (hw : 0 < w.heap.size) (C : Array Value) (hC : C = (cells (List.replicate 20 0)).toArray) (ho : Only (w.heap.size + 1) ((w.alloc (.cells C 40)).alloc (.cells zeroS.toArray 176)) w2) :
 TabH w2 ∧ Below w.heap.size w w2 ∧ BlkV w2 w.heap.size 40 (cells (List.replicate 20 0)) ∧ w2.heap.size = w.heap.size + 2 := by
 subst hC
 have hb := ((((Below.refl w.heap.size w).alloc (Nat.le_refl _) (.cells (cells (List.replicate 20 0)).toArray 40)).alloc (by simp) (.cells zeroS.toArray 176))).trans (ho.below (by omega))
 refine ⟨fun j v hv => ?_, hb, ((BlkV.new w _ _).alloc _).only ho (by omega), by rw [ho.size]; simp⟩
 exact (hb.cell (p := ⟨_, _, none⟩) (block_lt_of_cell (ht j v hv))).trans (ht j v hv)
theorem tab_below {w w' : World} (h : TabH w) (hb : Below w.heap.size w w') : TabH w' := h.grown (grown_of_below hb none) (by simp)

set_option maxRecDepth 100000 in
set_option maxHeartbeats 1000000 in
theorem done_some (p : Nat) (m : List UInt8) (w : World) (ht : TabH w) (hw : 0 < w.heap.size) (hst : StIs w p m) (hle : m.length ≤ 500000) :
 Calls Tryz.prog 93 #[.pointer (some ⟨p, 0, none⟩)] w fun e w' => e = .returned (.agg (cells (shaSum m)).toArray) ∧ Below w.heap.size w w' := by
 obtain ⟨s, r, hl, hB, hm⟩ := hst
 have hz := zeroSt
 have hlen : (stC s r m.length).length = 70 := stC_len _ _ _ hl
 have HL := Lib.hid hlen
 have HM := Lib.hid hm
 have HR := Lib.hid hl
 clear hlen hm hl
 have hzl : zeroS.length = 70 := by simp [zeroS, stC, c32, cells, S5.l]
 have HZ := Lib.hid hzl
 have HLE := Lib.hid hle
 clear hzl
 go_enter Tryz.func93, Tryz.ntmps93
 go_wp2_with (first
  | (with_reducible refine wpList_ld rfl 176 (.tmp 7) rfl p 0 rfl (stC s r m.length) (((hB.alloc _).alloc _).range 0 _ (by simp)) (row70 HL.out) ?_)
  | ((with_reducible refine wpList_st rfl 176 (.tmp 3) (.tmp 8) rfl (w.heap.size + 1) 0 (stC s r m.length) rfl rfl 176 zeroS (BlkV.new_at _ _ _ _ _ (by simp) rfl) (by rw [HL.out, HZ.out]; simp) (row70 HL.out) (stC_one _ _ _) ?_); intro w2 hB2 ho2; rw [splice_all _ _ (by rw [HZ.out, HL.out])] at hB2; obtain ⟨ht2, hb2, hT2, hz2⟩ := done_base w w2 ht hw _ rfl ho2; have hsz2 := (hB2.cell 69).trans (stC_atSize s r m.length HR.out); have HZ2 := Lib.hid hz2; clear hz2; have hst2 : StIs w2 (w.heap.size + 1) m := ⟨s, r, HR.out, hB2, HM.out⟩)
  | (go_at_call 109; ((with_reducible refine (closing_any m.length w2 (by have := HLE.out; omega)).mono ?_); rintro e w3 ⟨g, rfl, hg3, hB3, hb3⟩; have ht3 := tab_below ht2 hb3; have hst3 := hst2.grown (grown_of_below hb3 none) (by simp); have hT3 := hT2.below hb3 (by have := HZ2.out; omega); have hb3' := hb2.trans (hb3.mono (by have := HZ2.out; omega)); have hpl : (padBH m.length).length ≤ 72 := (by rw [padB_lenH]; unfold zeros; omega); have hr3 := hB3.rd rfl (Nat.le_refl (padBH m.length).length) (by simp [maxLen]; omega); have hoff : OffN (some ⟨g, 0, none⟩) (padBH m.length).length (w.heap.size + 1) := (fun _ => off_ne (by have := HZ2.out; omega)); have hlm : m.length + (padBH m.length).length ≤ 1000000 := (by have := HLE.out; omega); have hp0 : 0 < w.heap.size + 1 := (by omega)))
  | (go_at_call 92; ((with_reducible refine (write_anyH (w.heap.size + 1) m (padBH m.length) (some ⟨g, 0, none⟩) _ _ w3 ht3 hp0 hst3 hr3 hoff hlm).mono ?_); rintro e w4 ⟨rfl, hst4, hg4⟩; obtain ⟨s4, r4, hl4, hB4, hm4⟩ := hst4; have hi4 := hm4 (pad_ne m); have hT4 := hT3.grown hg4 (by simp); have hb4 := hb3'.grown hg4 (by have := hb3'.size; omega) (fun q hq => by injection hq with hq; omega)))
  | (with_reducible refine wpList_ld rfl 174 (.tmp 13) rfl (w.heap.size + 1) 0 rfl (c32 s4.l) (hB4.range 0 _ (fun i hi => stC_atWords s4 r4 _ i hi)) (row5 (by simp [c32_len, S5.l])) ?_)
  | (go_at_call 110; ((with_reducible refine (told_arr s4 w4 hi4.ok).mono ?_); rintro e w5 ⟨rfl, hb5⟩; have hT5 := hT4.below hb5 (by have := hb4.size; have := hT4.lt; omega); have hb5' := hb4.trans (hb5.mono hb4.size)))
  | (with_reducible refine wpList_st rfl 40 (.tmp 2) (.tmp 15) rfl w.heap.size 0 (cells (toldN s4 20)) rfl rfl 40 _ hT5 (by simp [length_cells, toldN_len]) (row20 (by rw [length_cells, toldN_len])) (cells_one _) ?_; intro w6 hB6 ho6))
 rw [splice_all _ _ (by simp [length_cells, toldN_len])] at hB6
 have he := sha_of hi4
 rw [he] at hB6
 exact ret_row (by rfl) (by rfl) hB6 (row20 (by rw [length_cells, shaSum_len])) (by rfl) ⟨rfl, hb5'.trans (ho6.below (Nat.le_refl _))⟩

theorem flat_takeH (ps : List (List UInt8)) (j : Nat) (hj : j < ps.length) : (ps.take (j + 1)).flatten = (ps.take j).flatten ++ ps.getD j [] := by
 rw [List.take_succ_eq_append_getElem hj, List.flatten_append]
 simp [List.getD, hj]
theorem flat_leH (ps : List (List UInt8)) (j : Nat) : (ps.take j).flatten.length ≤ ps.flatten.length := by
 have h : ps.flatten = (ps.take j).flatten ++ (ps.drop j).flatten := by rw [← List.flatten_append, List.take_append_drop]
 rw [h, List.length_append]
 omega

set_option maxRecDepth 100000 in
set_option maxHeartbeats 1000000 in
theorem sum_any (A : Option Addr) (k c : Nat) (ps : List (List UInt8)) (w : World) (ht : TabH w) (hw : 0 < w.heap.size) (hp : PartsRd w A k ps) (hk : k ≤ 9223372036854775807) (hle : ps.flatten.length ≤ 500000) :
 Calls Tryz.prog 80 #[.slice A k c] w fun e w' => e = .returned (.agg (cells (shaSum ps.flatten)).toArray) ∧ Below w.heap.size w w' := by
 have hpl := hp.1
 have HPL := Lib.hid hpl
 have HLE := Lib.hid hle
 clear hpl hle
 obtain ⟨C, hC⟩ : ∃ C, C = (cells (List.replicate 20 0)).toArray := ⟨_, rfl⟩
 have hT := BlkV.new_at w w.heap.size 40 (cells (List.replicate 20 0)) C rfl hC
 have hb1 : Below w.heap.size w (w.alloc (.cells C 40)) := (Below.refl _ _).alloc (Nat.le_refl _) _
 have hC' : C = #[.int .u8 0, .int .u8 0, .int .u8 0, .int .u8 0, .int .u8 0, .int .u8 0, .int .u8 0, .int .u8 0, .int .u8 0, .int .u8 0, .int .u8 0, .int .u8 0, .int .u8 0, .int .u8 0, .int .u8 0, .int .u8 0, .int .u8 0, .int .u8 0, .int .u8 0, .int .u8 0] := hC
 rw [hC'] at hT hb1
 clear hC hC'
 go_enter Tryz.func80, Tryz.ntmps80
 go_wp2_with (go_at_call 91; ((with_reducible refine (new_anyH _).mono ?_); rintro e w2 ⟨rfl, hst2, hb2, hz2⟩))
 simp only [World.size_alloc] at hst2 hb2 hz2
 have hT2 := hT.below hb2 (by omega)
 have hbw2 := hb1.trans (hb2.mono (by omega))
 have ht2 := tab_below ht hbw2
 clear hT hb1 hb2 hz2
 go_loopw [9] (fun i wr => ∃ j : Nat, j ≤ k ∧ i = .int .i64 j ∧ StIs wr (w.heap.size + 1) (ps.take j).flatten ∧ BlkV wr w.heap.size 40 (cells (List.replicate 20 0)) ∧ TabH wr ∧ Below w.heap.size w wr) (fun i _ => k - (intOf i).toNat)
 case atStart => exact ⟨0, by omega, rfl, hst2, hT2, ht2, hbw2⟩
 case round =>
  clear hst2 hT2 ht2 hbw2
  obtain ⟨j, hj, rfl, hst, hT, htr, hb⟩ := hrel
  by_cases hlt : j < k
  · obtain ⟨b, off, rfl, hblt, hc⟩ := hp.2 (by omega)
    obtain ⟨Aj, nj, cj, hcj, hrj⟩ := hc j hlt
    have hcell := (hb.cell (p := ⟨b, off + j, none⟩) hblt).trans hcj
    have hrr := hrj.below hb
    have hof := hrj.off_lt (p := w.heap.size + 1) (by omega)
    have hfl := flat_takeH ps j (by rw [HPL.out]; exact hlt)
    have hln := flat_leH ps (j + 1)
    have hle : (ps.take j).flatten.length + nj ≤ 1000000 := by
     rw [hfl, List.length_append, hrj.len] at hln
     have := HLE.out
     omega
    have hwr := write_anyH (w.heap.size + 1) (ps.take j).flatten (ps.getD j []) Aj nj cj wr htr (by omega) hst hrr hof hle
    rw [← hfl] at hwr
    have HWR := Lib.hid hwr
    clear hwr hfl hln hle hcj hc
    go_wp2_with (go_at_call 92; ((with_reducible refine (Hid.out HWR).mono ?_); rintro e w4 ⟨rfl, hst4, hg4⟩))
    have hT4 := hT.grown hg4 (by simp)
    have hb4 := hb.grown hg4 hb.size (fun q hq => by injection hq with hq; omega)
    have ht4 := tab_below ht hb4
    go_roundw
    case rel => exact ⟨j + 1, by omega, by go_num, hst4, hT4, ht4, hb4⟩
    case measure => simp [intOf]; omega
  · obtain rfl : j = k := by omega
    have hall : ps.take j = ps := List.take_of_length_le (by rw [HPL.out]; exact Nat.le_refl _)
    rw [hall] at hst
    have hlt0 : 0 < wr.heap.size := by have := hb.size; omega
    have hdn := done_some (w.heap.size + 1) ps.flatten wr htr hlt0 hst HLE.out
    have HD := Lib.hid hdn
    have hTl := hT.lt
    clear hdn hall
    go_wp2_with (first
     | (go_at_call 93; ((with_reducible refine (Hid.out HD).mono ?_); rintro e w5 ⟨rfl, hb5⟩; have hT5 := hT.below hb5 hTl; have hb5' := hb.trans (hb5.mono hb.size)))
     | (with_reducible refine wpList_st rfl 40 (.tmp 2) (.tmp 18) rfl w.heap.size 0 (cells (shaSum ps.flatten)) rfl rfl 40 _ hT5 (by simp [length_cells, shaSum_len]) (row20 (by rw [length_cells, shaSum_len])) (cells_one _) ?_; intro w6 hB6 ho6))
    rw [splice_all _ _ (by simp [length_cells, shaSum_len])] at hB6
    exact ret_row (by rfl) (by rfl) hB6 (row20 (by rw [length_cells, shaSum_len])) (by rfl) ⟨rfl, hb5'.trans (ho6.below (Nat.le_refl _))⟩
theorem xr_byte (a x : UInt8) : bits BinOp.xor IntKind.u8 (a.toNat : Int) (x.toNat : Int) = ((a ^^^ x).toNat : Int) := by
 rw [u8_xor_nat _ _ a.toNat_lt x.toNat_lt, UInt8.toNat_xor]

set_option maxHeartbeats 1000000 in
theorem turned_anyM (B : List UInt8) (x : UInt8) (xi : Int) (w : World) (hl : B.length = 64) (hx : xi = (x.toNat : Int)) :
 Calls Tryz.prog 81 #[.agg (cells B).toArray, .int .u8 xi] w fun e w' => e = .returned (.slice (some ⟨w.heap.size, 0, none⟩) 64 64) ∧ Blk w' w.heap.size 141 (xorB x B) ∧ Below w.heap.size w w' := by
 have HL := Lib.hid hl
 have HX := Lib.hid hx
 have hb0 : Below w.heap.size w (w.alloc (Obj.cells (cells B).toArray 141)) := (Below.refl _ _).alloc (Nat.le_refl _) _
 have h0 : Blk (w.alloc (Obj.cells (cells B).toArray 141)) w.heap.size 141 (turnAt x B 0) := by rw [turnAt_zero]; exact Blk.new _ _ B
 clear hl hx
 go_enter Tryz.func81, Tryz.ntmps81
 go_wp2
 go_loopw [6] (fun i wr => ∃ k : Nat, k ≤ 64 ∧ i = .int .i64 k ∧ Blk wr w.heap.size 141 (turnAt x B k) ∧ Below w.heap.size w wr) (fun i _ => 64 - (intOf i).toNat)
 case atStart => exact ⟨0, by omega, rfl, h0, hb0⟩
 case round =>
  clear h0 hb0
  obtain ⟨k, hk, rfl, h1, hb⟩ := hrel
  by_cases hlt : k < 64
  · have hcell := h1.cell (j := k) (by rw [turnAt_len _ _ _ (by rw [HL.out]; omega), HL.out]; exact hlt)
    rw [turnAt_get x B k (by rw [HL.out]; exact hlt)] at hcell
    have hfr := h1.frozen k
    have hs := h1.set_ k (B.getD k 0 ^^^ x)
    rw [turnAt_step x B k (by rw [HL.out]; exact hlt)] at hs
    have hbs := hb.setCell (p := ⟨w.heap.size, k, none⟩) (by simp) (.int .u8 ((B.getD k 0 ^^^ x).toNat : Int))
    have hxr := xr_byte (B.getD k 0) x
    rw [← HX.out] at hxr
    rw [← hxr] at hs hbs
    clear hxr
    obtain ⟨y, hy⟩ : ∃ y : Int, y = ((B.getD k 0).toNat : Int) := ⟨_, rfl⟩
    rw [← hy] at hcell hs hbs
    clear hy
    go_wp2
    go_roundw
    case rel => exact ⟨k + 1, by omega, by go_num, hs, hbs⟩
    case measure => simp [intOf]; omega
  · obtain rfl : k = 64 := by omega
    rw [turnAt_all x B 64 (by rw [HL.out]; exact Nat.le_refl _)] at h1
    go_wp2
    go_ret
    exact ⟨rfl, h1, hb⟩
end Go.Proofs.YtheefckohnaceaaGreatDoor
