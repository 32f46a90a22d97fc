/- RingLast's walk: of packets of one size that come by rising indices the last ones are there, as many as there is room for. -/
import Derived.Test.YtjbeheegciacpaaRngL2
namespace Go.Proofs.Ytjbeheegciacpaa
open Go.RowKit
set_option linter.unusedVariables false

/-- n packets of one kind, from an index on. -/
def runG (a n : Nat) (z : List UInt8) : List Pck := (List.range n).map fun j => (((a + j : Nat) : Int), z)
theorem runG_len (a n : Nat) (z : List UInt8) : (runG a n z).length = n := by simp [runG]
theorem runG_siz (a : Nat) (z : List UInt8) : ∀ n : Nat, sizD (runG a n z) = n * z.length
  | 0 => by simp [runG, sizD]
  | n + 1 => by
    have ih := runG_siz a z n
    unfold runG at ih ⊢
    rw [List.range_succ, List.map_append, sizD_append, ih, Nat.succ_mul]
    simp [sizD]
theorem runG_mem {a n : Nat} {z : List UInt8} {p : Pck} : p ∈ runG a n z ↔ ∃ j, j < n ∧ p = (((a + j : Nat) : Int), z) := by
  simp [runG, List.mem_map, eq_comm]
theorem runG_snoc (a n : Nat) (z : List UInt8) : runG a n z ++ [(((a + n : Nat) : Int), z)] = runG a (n + 1) z := by
  unfold runG
  rw [List.range_succ, List.map_append]
  rfl
theorem runG_cons (a n : Nat) (z : List UInt8) : runG a (n + 1) z = ((a : Int), z) :: runG (a + 1) n z := by
  unfold runG
  rw [List.range_succ_eq_map]
  simp only [List.map_cons, List.map_map, Nat.add_zero]
  congr 1
  apply List.map_congr_left
  intro j _
  simp only [Function.comp_apply, Nat.succ_eq_add_one]
  congr 2
  omega
theorem runG_srt (a n : Nat) (z : List UInt8) : Srt (runG a n z) := by
  unfold Srt runG
  rw [List.pairwise_map]
  exact List.pairwise_lt_range.imp (fun {x y} h => by simp only; omega)
theorem insL_last (p : Pck) : ∀ L : List Pck, (∀ x ∈ L, x.1 < p.1) → insL p L = L ++ [p]
  | [], _ => rfl
  | x :: r, h => by
    unfold insL
    rw [if_pos (h x (by simp)), insL_last p r (fun y hy => h y (by simp [hy]))]
    rfl
theorem fitL_id {P B : Int} {L : List Pck} (h1 : (L.length : Int) ≤ P) (h2 : (sizD L : Int) ≤ B) : fitL P B L = L := by
  cases L with
  | nil => rfl
  | cons x r => unfold fitL; rw [if_neg (by omega)]
/-- The ring behind i packets, of m at most. -/
def behG (m i : Nat) (z : List UInt8) : List Pck := runG (i - m) (min i m) z
theorem behG_put (m i : Nat) (z : List UInt8) (hm : 1 ≤ m) (hm9 : m ≤ 9) (hz : z.length ≤ 255) : putE (m : Int) 1000000 (behG m i z) (i : Int) z = 0 ∧ putG (m : Int) 1000000 (behG m i z) (i : Int) z = behG m (i + 1) z := by
  have hlt : ∀ x ∈ behG m i z, x.1 < (i : Int) := fun x hx => by
    obtain ⟨j, hj, rfl⟩ := runG_mem.1 hx
    simp only
    omega
  have hE : putE (m : Int) 1000000 (behG m i z) (i : Int) z = 0 := by
    unfold putE
    rw [if_neg (by omega), if_neg (by omega), if_neg]
    rintro (h | ⟨h1, h2⟩)
    · obtain ⟨x, hx, he⟩ := List.mem_map.1 h
      have := hlt x hx; omega
    · cases hb : behG m i z with
      | nil =>
        rw [hb] at h1
        simp only [List.length_nil] at h1
        omega
      | cons x r =>
        rw [hb] at h2 hlt
        have := hlt x (by simp)
        simp at h2
        omega
  refine ⟨hE, ?_⟩
  unfold putG
  rw [if_pos hE, insL_last _ _ hlt]
  unfold behG
  by_cases h : i < m
  · rw [show i - m = 0 by omega, show min i m = i by omega, show i + 1 - m = 0 by omega, show min (i + 1) m = i + 1 by omega]
    have := runG_snoc 0 i z
    rw [Nat.zero_add] at this
    rw [this]
    refine fitL_id (by rw [runG_len]; omega) ?_
    rw [runG_siz]
    have : (i + 1) * z.length ≤ 9 * 255 := Nat.mul_le_mul (by omega) hz
    omega
  · rw [show min i m = m by omega, show min (i + 1) m = m by omega]
    have := runG_snoc (i - m) m z
    rw [show i - m + m = i by omega] at this
    rw [this, runG_cons]
    unfold fitL
    rw [if_pos (.inl (by simp [runG_len]; omega)), show i - m + 1 = i + 1 - m by omega]
    refine fitL_id (by rw [runG_len]; omega) ?_
    rw [runG_siz]
    have : m * z.length ≤ 9 * 255 := Nat.mul_le_mul (by omega) hz
    omega
theorem behG_in (m n i : Nat) (z : List UInt8) (h1 : n ≤ i + m) (h2 : i < n) : ((i : Int), z) ∈ behG m n z :=
  runG_mem.2 ⟨i - (n - m), by omega, by congr 2; omega⟩
theorem behG_out (m n i : Nat) (z : List UInt8) (h1 : i + m < n) : (i : Int) ∉ (behG m n z).map (·.1) := fun h => by
  obtain ⟨x, hx, he⟩ := List.mem_map.1 h
  obtain ⟨j, hj, rfl⟩ := runG_mem.1 hx
  simp only at he
  omega
theorem behG_len (m n : Nat) (z : List UInt8) : (behG m n z).length = min n m := runG_len _ _ _
theorem behG_siz (m n : Nat) (z : List UInt8) (hm9 : m ≤ 9) (hz : z.length ≤ 255) : sizD (behG m n z) ≤ 2295 := by
  unfold behG
  rw [runG_siz]
  exact Nat.mul_le_mul (show min n m ≤ 9 by omega) hz

set_option maxRecDepth 100000 in
theorem ringLast_walk {T : World → Value → Rgs → (Nat → Prop) → Prop} (hT : Tells19 T) (a b c : Int) (w : World) (ha : (Lit.int .u8 a).wf = true) (hb : (Lit.int .u8 b).wf = true) (hc : (Lit.int .u8 c).wf = true) :
    Calls Try.prog 5 #[.int .u8 a, .int .u8 b, .int .u8 c] w fun e w' => e = .returned (.bool true) ∧ Below w.heap.size w w' := by
  have H := Lib.hid hT
  have HAL := Lib.hid (alive_any19 hT w)
  have ba := bounds_u8 ha
  have bb := bounds_u8 hb
  have bc := bounds_u8 hc
  obtain ⟨m, hm⟩ : ∃ m : Nat, a % 9 + 1 = m := ⟨(a % 9 + 1).toNat, by omega⟩
  have hm1 : 1 ≤ m := by omega
  have hm9 : m ≤ 9 := by omega
  obtain ⟨x, hx⟩ : ∃ x : Int, x = a % 9 := ⟨_, rfl⟩
  have hxm : x + 1 = (m : Int) := by omega
  obtain ⟨n, hn⟩ : ∃ n : Nat, c % 40 = n := ⟨(c % 40).toNat, by omega⟩
  have hn39 : n ≤ 39 := by omega
  obtain ⟨k, hk⟩ : ∃ k : Nat, b = k := ⟨b.toNat, by omega⟩
  subst hk
  have hk255 : k ≤ 255 := by omega
  obtain ⟨z, hz⟩ : ∃ z : List UInt8, z = List.replicate k 0 := ⟨_, rfl⟩
  have hzl : z.length = k := by rw [hz, List.length_replicate]
  have hmk : ∀ wx : World, (Instr.makeSlice 31 (.int .i64 (k : Int)) (.int .i64 (k : Int))).run Try.prog wx = .ok (.slice (some ⟨wx.heap.size, 0, none⟩) k k) (wx.alloc (.cells (cells z).toArray 5)) := fun wx => by
    rw [hz]
    exact run_makeB (P := Try.prog) Try.underlying31 u8_info .i64 .i64 (k : Int) (k : Int) k rfl rfl (by omega) wx
  have HN := Lib.hid (fun wx => hT.new_ok (m : Int) 1000000 wx (by omega) (by decide) (by omega) (by decide))
  have HZ := Lib.hid hzl
  have HX := Lib.hid hx
  have HXM := Lib.hid hxm
  have hxb : 0 ≤ x ∧ x ≤ 8 := by omega
  have hmw : IntKind.i64.wrap (x + 1) = (m : Int) := by rw [hxm]; exact IntWalk.i64_in _ (by omega)
  have hxa : a % 9 = x := hx.symm
  clear hT ha hb hc hm hz hzl hx
  go_enter Try.func5, Try.ntmps5
  go_wp2_with (first
    | (go_at_call 7; ((with_reducible refine (Hid.out HAL).mono ?_); rintro e w1 ⟨rfl, hb1⟩; have HB := Lib.hid hb1; clear hb1))
    | (go_at_call 8; ((with_reducible refine (Hid.out HN _).mono ?_); rintro e w2 ⟨q, F, rfl, HK⟩)))
  have HO0 : Hid (On19 T w (fun _ => False) (.pointer (some q)) ⟨(m : Int), 1000000, behG m 0 z⟩ w2) := Lib.hid (by
    have h1 := HK.out
    have hb := HB.out
    refine ⟨⟨F, h1.1, fun k hk => ⟨by have := h1.2.1 k hk; have := hb.size; omega, fun hf => hf⟩⟩, fun k hk => hk.elim, hb.trans (h1.2.2.mono hb.size)⟩)
  clear HK HB HN HAL hmw hxa hn HXM hxm HX
  go_loopw [10] (fun vi wr => ∃ i : Nat, i ≤ n ∧ vi = .int .i64 i ∧ Hid (On19 T w (fun _ => False) (.pointer (some q)) ⟨(m : Int), 1000000, behG m i z⟩ wr)) (fun i _ => n - (intOf i).toNat)
  case atStart => exact ⟨0, by omega, rfl, HO0⟩
  case round =>
    clear HO0
    obtain ⟨i, hi, rfl, HO⟩ := hrel
    by_cases hlt : i < n
    · have hii : (i : Int) < (n : Int) := by omega
      obtain ⟨hE, hG⟩ := behG_put m i z hm1 hm9 (by rw [HZ.out]; omega)
      have HO1 := HO.out.more H.out (.cells (cells z).toArray 5)
      have HBK : Blk (wr.alloc (.cells (cells z).toArray 5)) wr.heap.size 5 z := Blk.new _ _ _
      have P1 := Lib.hid (HO1.put_is H.out 0 (i : Int) (some ⟨wr.heap.size, 0, none⟩) k k z (runG_srt _ _ _) (by omega) (by decide) (HBK.rd HZ.out (by omega) (by simp only [maxLen]; omega)) (fun _ ad hA => .inr (.inr (by injection hA with hA; rw [← hA]))) (by rw [behG_len]; omega) (by have := behG_siz m i z hm9 (by rw [HZ.out]; omega); omega) (by omega) hE hG)
      clear hE hG HO1 HBK
      go_wp2_with (go_at_call 11; ((with_reducible refine (Hid.out P1).mono ?_); rintro e w3 ⟨rfl, HK3⟩))
      go_roundw
      case rel => exact ⟨i + 1, by omega, by go_num, Lib.hid (HK3.out.1.less (fun _ h => h.elim))⟩
      case measure => simp [intOf]; omega
    · obtain rfl : i = n := by omega
      go_wp2
      go_loopw [11] (fun vi wx => ∃ j : Nat, j ≤ i ∧ vi = .int .i64 j ∧ Hid (On19 T w (fun _ => False) (.pointer (some q)) ⟨(m : Int), 1000000, behG m i z⟩ wx)) (fun j _ => i - (intOf j).toNat)
      case atStart => exact ⟨0, by omega, rfl, HO⟩
      case round =>
        clear HO
        obtain ⟨j, hj, rfl, HO⟩ := hrel
        by_cases hjl : j < i
        · have hji : (j : Int) < (i : Int) := by omega
          by_cases hin : i ≤ j + m
          · have hcm : (i : Int) - (m : Int) ≤ (j : Int) := by omega
            have G1 := Lib.hid (HO.out.get_in H.out (j : Int) z (runG_srt _ _ _) (by show (behG m i z).length ≤ 201; rw [behG_len]; omega) (behG_in m i j z hin hjl))
            go_wp2_with (go_at_call 13; ((with_reducible refine (Hid.out G1).mono ?_); rintro e w5 ⟨A5, c5, rfl, HK5⟩))
            go_roundw
            case rel => exact ⟨j + 1, by omega, by go_num, Lib.hid (HO.out.on H.out HK5.out.2).1⟩
            case measure => simp [intOf]; omega
          · have hcm : (j : Int) < (i : Int) - (m : Int) := by omega
            have G1 := Lib.hid (HO.out.get_out H.out (j : Int) (runG_srt _ _ _) (by show (behG m i z).length ≤ 201; rw [behG_len]; omega) (behG_out m i j z (by omega)))
            go_wp2_with (go_at_call 13; ((with_reducible refine (Hid.out G1).mono ?_); rintro e w5 ⟨A5, n5, c5, rfl, HK5⟩))
            go_roundw
            case rel => exact ⟨j + 1, by omega, by go_num, Lib.hid (HO.out.on H.out HK5.out).1⟩
            case measure => simp [intOf]; omega
        · obtain rfl : j = i := by omega
          go_wp2
          go_ret
          exact ⟨rfl, HO.out.below⟩
end Go.Proofs.Ytjbeheegciacpaa
