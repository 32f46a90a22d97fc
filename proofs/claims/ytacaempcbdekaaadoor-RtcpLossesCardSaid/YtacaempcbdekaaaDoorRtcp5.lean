/- Contracts of package rtcp: a packet's kind, by its type and its count. No statement is proved here. -/
import Derived.Test.YtacaempcbdekaaaDoorRtcp4
namespace Go.Proofs.YtacaempcbdekaaaDoor
open Go.RowKit
set_option linter.unusedVariables false

def fbC (k s c : Int) : List Value := [.int .i64 k, .int .i64 s, .int .i64 c]
def tabC : List Value := [.int .i64 1, .int .i64 205, .int .i64 1, .int .i64 2, .int .i64 206, .int .i64 1, .int .i64 3, .int .i64 206, .int .i64 4, .int .i64 4, .int .i64 206, .int .i64 15]
/-- The package's table lies where it was laid. -/
def Tab (w : World) : Prop := w.rangeAt 0 0 tabC
theorem Tab.below {w w' : World} {B : Nat} (h : Tab w) (hb : Below B w w') (h0 : 0 < B) : Tab w' := fun j v hv => (hb.cell (p := ⟨_, _, none⟩) h0).trans (h j v hv)
theorem rowTab : RowTy Tryd.prog 82 tabC.length := ⟨_, Tryd.underlying82, rfl, by kernel_rfl⟩
theorem rowFb {cs : List Value} (h : cs.length = 3) : RowTy Tryd.prog 81 cs.length := by
  rw [h]; exact ⟨_, Tryd.underlying81, rfl, by kernel_rfl⟩
abbrev zFb : List Value := [.int .i64 0, .int .i64 0, .int .i64 0]
theorem zeroFb (w : World) : (zeroValue 81).run Tryd.prog w = .ok (.agg #[.int .i64 0, .int .i64 0, .int .i64 0]) w := by kernel_rfl
theorem idxFb0 (w : World) : (Instr.index 82 (.agg #[.int .i64 1, .int .i64 205, .int .i64 1, .int .i64 2, .int .i64 206, .int .i64 1, .int .i64 3, .int .i64 206, .int .i64 4, .int .i64 4, .int .i64 206, .int .i64 15]) (.int .i64 0)).run Tryd.prog w = .ok (.agg #[.int .i64 1, .int .i64 205, .int .i64 1]) w := by kernel_rfl
theorem idxFb1 (w : World) : (Instr.index 82 (.agg #[.int .i64 1, .int .i64 205, .int .i64 1, .int .i64 2, .int .i64 206, .int .i64 1, .int .i64 3, .int .i64 206, .int .i64 4, .int .i64 4, .int .i64 206, .int .i64 15]) (.int .i64 1)).run Tryd.prog w = .ok (.agg #[.int .i64 2, .int .i64 206, .int .i64 1]) w := by kernel_rfl
theorem idxFb2 (w : World) : (Instr.index 82 (.agg #[.int .i64 1, .int .i64 205, .int .i64 1, .int .i64 2, .int .i64 206, .int .i64 1, .int .i64 3, .int .i64 206, .int .i64 4, .int .i64 4, .int .i64 206, .int .i64 15]) (.int .i64 2)).run Tryd.prog w = .ok (.agg #[.int .i64 3, .int .i64 206, .int .i64 4]) w := by kernel_rfl
theorem idxFb3 (w : World) : (Instr.index 82 (.agg #[.int .i64 1, .int .i64 205, .int .i64 1, .int .i64 2, .int .i64 206, .int .i64 1, .int .i64 3, .int .i64 206, .int .i64 4, .int .i64 4, .int .i64 206, .int .i64 15]) (.int .i64 3)).run Tryd.prog w = .ok (.agg #[.int .i64 4, .int .i64 206, .int .i64 15]) w := by kernel_rfl
theorem fbC_one (k s c : Int) : ∀ v ∈ fbC k s c, v.oneCell' = true := by intro v hv; simp [fbC] at hv; rcases hv with rfl | rfl | rfl <;> rfl
def fbAt : Nat → Nat × Nat × Nat
  | 0 => (1, 205, 1)
  | 1 => (2, 206, 1)
  | 2 => (3, 206, 4)
  | _ => (4, 206, 15)
def kindN (s q : Nat) : Nat := if s = 205 ∧ q = 1 then 1 else if s = 206 ∧ q = 1 then 2 else if s = 206 ∧ q = 4 then 3 else if s = 206 ∧ q = 15 then 4 else if s < 200 ∨ 203 < s then 0 else s
/-- None of the first k fits. -/
def noneFb (s q k : Nat) : Prop := ∀ j, j < k → ¬ (s = (fbAt j).2.1 ∧ q = (fbAt j).2.2)
theorem kind_hit (s q k : Nat) (hk : k < 4) (h : noneFb s q k) (h1 : s = (fbAt k).2.1) (h2 : q = (fbAt k).2.2) : kindN s q = (fbAt k).1 := by
  subst h1; subst h2
  match k, hk with
  | 0, _ => rfl
  | 1, _ => rfl
  | 2, _ => rfl
  | 3, _ => rfl
theorem kind_miss (s q : Nat) (h : noneFb s q 4) : kindN s q = if s < 200 ∨ 203 < s then 0 else s := by
  have h0 := h 0 (by omega)
  have h1 := h 1 (by omega)
  have h2 := h 2 (by omega)
  have h3 := h 3 (by omega)
  simp only [fbAt] at h0 h1 h2 h3
  unfold kindN
  rw [if_neg h0, if_neg h1, if_neg h2, if_neg h3]

set_option maxRecDepth 100000 in
set_option maxHeartbeats 1000000 in
theorem kindOf_any (s q : Nat) (sI qI : Int) (hsI : sI = s) (hqI : qI = q) (w : World) (ht : Tab w) (hw : 0 < w.heap.size) (hs : s < 256) (hq : q < 32) :
    Calls Tryd.prog 51 #[.int .i64 sI, .int .i64 qI] w fun e w' => e = .returned (.int .i64 (kindN s q : Int)) ∧ Below w.heap.size w w' := by
  have hz := zeroFb
  have HSI := Lib.hid hsI
  have HQI := Lib.hid hqI
  clear hsI hqI
  have HT : Hid (w.rangeAt 0 0 tabC) := Lib.hid ht
  clear ht
  go_enter Tryd.func51, Tryd.ntmps51
  go_wp2_with (with_reducible refine wpList_ld rfl 82 (.global 0) rfl 0 0 rfl tabC HT.out rowTab ?_)
  unfold tabC
  go_loopw [8] (fun i wx => ∃ (k : Nat) (z : Int), k ≤ 4 ∧ z = k ∧ i = .int .i64 z ∧ Hid (noneFb s q k) ∧ Hid (Below w.heap.size w wx)) (fun i _ => 4 - (intOf i).toNat)
  case atStart => exact ⟨0, 0, by omega, rfl, rfl, Lib.hid (fun j hj => absurd hj (by omega)), Lib.hid (Below.refl _ _)⟩
  case round =>
    obtain ⟨k, z, hk, hzk, rfl, HN, HB⟩ := hrel
    have hsz := HB.out.size
    by_cases hk4 : k < 4
    · match k, hk4 with
      | 0, _ =>
        obtain rfl : z = 0 := by omega
        by_cases h1 : s = 205
        · by_cases h2 : q = 1
          · have HR : Hid (kindN s q = 1) := Lib.hid (kind_hit s q 0 (by omega) HN.out h1 h2)
            obtain rfl : sI = 205 := by have := HSI.out; omega
            obtain rfl : qI = 1 := by have := HQI.out; omega
            clear hzk h1 h2 hs hq
            have hix := idxFb0
            go_wp2
            go_ret
            exact ⟨by rw [HR.out]; rfl, HB.out.alloc HB.out.size _⟩
          · have HN2 : Hid (noneFb s q 1) := Lib.hid (fun j hj => by
              rcases Nat.lt_or_ge j 0 with h3 | h3
              · exact HN.out j h3
              · obtain rfl : j = 0 := by omega
                exact fun h => h2 h.2)
            obtain rfl : sI = 205 := by have := HSI.out; omega
            have g2 : ¬ qI = 1 := by have := HQI.out; omega
            clear hzk h1 h2 hs hq
            have hix := idxFb0
            go_wp2
            go_roundw
            case rel => exact ⟨1, 1, by omega, rfl, by go_num, HN2, Lib.hid (HB.out.alloc HB.out.size _)⟩
            case measure => simp [intOf]
        · have HN2 : Hid (noneFb s q 1) := Lib.hid (fun j hj => by
            rcases Nat.lt_or_ge j 0 with h3 | h3
            · exact HN.out j h3
            · obtain rfl : j = 0 := by omega
              exact fun h => h1 h.1)
          have g1 : ¬ sI = 205 := by have := HSI.out; omega
          clear hzk h1 hs hq
          have hix := idxFb0
          go_wp2
          go_roundw
          case rel => exact ⟨1, 1, by omega, rfl, by go_num, HN2, Lib.hid (HB.out.alloc HB.out.size _)⟩
          case measure => simp [intOf]
      | 1, _ =>
        obtain rfl : z = 1 := by omega
        by_cases h1 : s = 206
        · by_cases h2 : q = 1
          · have HR : Hid (kindN s q = 2) := Lib.hid (kind_hit s q 1 (by omega) HN.out h1 h2)
            obtain rfl : sI = 206 := by have := HSI.out; omega
            obtain rfl : qI = 1 := by have := HQI.out; omega
            clear hzk h1 h2 hs hq
            have hix := idxFb1
            go_wp2
            go_ret
            exact ⟨by rw [HR.out]; rfl, HB.out.alloc HB.out.size _⟩
          · have HN2 : Hid (noneFb s q 2) := Lib.hid (fun j hj => by
              rcases Nat.lt_or_ge j 1 with h3 | h3
              · exact HN.out j h3
              · obtain rfl : j = 1 := by omega
                exact fun h => h2 h.2)
            obtain rfl : sI = 206 := by have := HSI.out; omega
            have g2 : ¬ qI = 1 := by have := HQI.out; omega
            clear hzk h1 h2 hs hq
            have hix := idxFb1
            go_wp2
            go_roundw
            case rel => exact ⟨2, 2, by omega, rfl, by go_num, HN2, Lib.hid (HB.out.alloc HB.out.size _)⟩
            case measure => simp [intOf]
        · have HN2 : Hid (noneFb s q 2) := Lib.hid (fun j hj => by
            rcases Nat.lt_or_ge j 1 with h3 | h3
            · exact HN.out j h3
            · obtain rfl : j = 1 := by omega
              exact fun h => h1 h.1)
          have g1 : ¬ sI = 206 := by have := HSI.out; omega
          clear hzk h1 hs hq
          have hix := idxFb1
          go_wp2
          go_roundw
          case rel => exact ⟨2, 2, by omega, rfl, by go_num, HN2, Lib.hid (HB.out.alloc HB.out.size _)⟩
          case measure => simp [intOf]
      | 2, _ =>
        obtain rfl : z = 2 := by omega
        by_cases h1 : s = 206
        · by_cases h2 : q = 4
          · have HR : Hid (kindN s q = 3) := Lib.hid (kind_hit s q 2 (by omega) HN.out h1 h2)
            obtain rfl : sI = 206 := by have := HSI.out; omega
            obtain rfl : qI = 4 := by have := HQI.out; omega
            clear hzk h1 h2 hs hq
            have hix := idxFb2
            go_wp2
            go_ret
            exact ⟨by rw [HR.out]; rfl, HB.out.alloc HB.out.size _⟩
          · have HN2 : Hid (noneFb s q 3) := Lib.hid (fun j hj => by
              rcases Nat.lt_or_ge j 2 with h3 | h3
              · exact HN.out j h3
              · obtain rfl : j = 2 := by omega
                exact fun h => h2 h.2)
            obtain rfl : sI = 206 := by have := HSI.out; omega
            have g2 : ¬ qI = 4 := by have := HQI.out; omega
            clear hzk h1 h2 hs hq
            have hix := idxFb2
            go_wp2
            go_roundw
            case rel => exact ⟨3, 3, by omega, rfl, by go_num, HN2, Lib.hid (HB.out.alloc HB.out.size _)⟩
            case measure => simp [intOf]
        · have HN2 : Hid (noneFb s q 3) := Lib.hid (fun j hj => by
            rcases Nat.lt_or_ge j 2 with h3 | h3
            · exact HN.out j h3
            · obtain rfl : j = 2 := by omega
              exact fun h => h1 h.1)
          have g1 : ¬ sI = 206 := by have := HSI.out; omega
          clear hzk h1 hs hq
          have hix := idxFb2
          go_wp2
          go_roundw
          case rel => exact ⟨3, 3, by omega, rfl, by go_num, HN2, Lib.hid (HB.out.alloc HB.out.size _)⟩
          case measure => simp [intOf]
      | 3, _ =>
        obtain rfl : z = 3 := by omega
        by_cases h1 : s = 206
        · by_cases h2 : q = 15
          · have HR : Hid (kindN s q = 4) := Lib.hid (kind_hit s q 3 (by omega) HN.out h1 h2)
            obtain rfl : sI = 206 := by have := HSI.out; omega
            obtain rfl : qI = 15 := by have := HQI.out; omega
            clear hzk h1 h2 hs hq
            have hix := idxFb3
            go_wp2
            go_ret
            exact ⟨by rw [HR.out]; rfl, HB.out.alloc HB.out.size _⟩
          · have HN2 : Hid (noneFb s q 4) := Lib.hid (fun j hj => by
              rcases Nat.lt_or_ge j 3 with h3 | h3
              · exact HN.out j h3
              · obtain rfl : j = 3 := by omega
                exact fun h => h2 h.2)
            obtain rfl : sI = 206 := by have := HSI.out; omega
            have g2 : ¬ qI = 15 := by have := HQI.out; omega
            clear hzk h1 h2 hs hq
            have hix := idxFb3
            go_wp2
            go_roundw
            case rel => exact ⟨4, 4, by omega, rfl, by go_num, HN2, Lib.hid (HB.out.alloc HB.out.size _)⟩
            case measure => simp [intOf]
        · have HN2 : Hid (noneFb s q 4) := Lib.hid (fun j hj => by
            rcases Nat.lt_or_ge j 3 with h3 | h3
            · exact HN.out j h3
            · obtain rfl : j = 3 := by omega
              exact fun h => h1 h.1)
          have g1 : ¬ sI = 206 := by have := HSI.out; omega
          clear hzk h1 hs hq
          have hix := idxFb3
          go_wp2
          go_roundw
          case rel => exact ⟨4, 4, by omega, rfl, by go_num, HN2, Lib.hid (HB.out.alloc HB.out.size _)⟩
          case measure => simp [intOf]
    · obtain rfl : k = 4 := by omega
      obtain rfl : z = 4 := by omega
      have HM := Lib.hid (kind_miss s q HN.out)
      by_cases h1 : s < 200
      · have HM2 : Hid (kindN s q = 0) := Lib.hid (HM.out.trans (if_pos (.inl h1)))
        have g1 : sI < 200 := by have := HSI.out; omega
        clear hzk h1 hs hq
        go_wp2
        go_ret
        exact ⟨by rw [HM2.out]; rfl, HB.out⟩
      · by_cases h2 : 203 < s
        · have HM2 : Hid (kindN s q = 0) := Lib.hid (HM.out.trans (if_pos (.inr h2)))
          have g1 : ¬ sI < 200 := by have := HSI.out; omega
          have g2 : 203 < sI := by have := HSI.out; omega
          clear hzk h1 h2 hs hq
          go_wp2
          go_ret
          exact ⟨by rw [HM2.out]; rfl, HB.out⟩
        · have HM2 : Hid (kindN s q = s) := Lib.hid (HM.out.trans (if_neg (by omega)))
          have g1 : ¬ sI < 200 := by have := HSI.out; omega
          have g2 : ¬ 203 < sI := by have := HSI.out; omega
          clear hzk h1 h2 hs hq
          go_wp2
          go_ret
          exact ⟨by rw [HM2.out, ← HSI.out]; rfl, HB.out⟩
end Go.Proofs.YtacaempcbdekaaaDoor
