/- What the functions of package octets answer, and what they leave of memory: contracts that the proofs of the statements use. No statement is proved here. -/
import Derived.Test.YtmkeioeodlidgaaDoorProg
import Derived.Test.YtmkeioeodlidgaaDoorZBytes
import Derived.Test.YtmkeioeodlidgaaDoorZNums
import Derived.KernelRfl
import Derived.Lib.Hide
namespace Go.Proofs.YtmkeioeodlidgaaDoor
open Go.RowKit
set_option linter.unusedVariables false

theorem width_yes (n : Int) (w : World) (h1 : 1 ≤ n) (h2 : n ≤ 8) : Calls Tryd.prog 26 #[.int .i64 n] w fun e w' => e = .returned (.bool true) ∧ w = w' := by
  go_enter Tryd.func26, Tryd.ntmps26
  go_wp2
  go_ret
  exact ⟨rfl, rfl⟩
theorem width_no (n : Int) (w : World) (h : n < 1 ∨ 8 < n) : Calls Tryd.prog 26 #[.int .i64 n] w fun e w' => e = .returned (.bool false) ∧ w = w' := by
  rcases h with h | h
  · go_enter Tryd.func26, Tryd.ntmps26
    go_wp2
    go_ret
    exact ⟨rfl, rfl⟩
  · have h1 : 1 ≤ n := by omega
    have hd : decide (n ≤ 8) = false := by simp; omega
    go_enter Tryd.func26, Tryd.ntmps26
    go_wp2
    go_ret
    exact ⟨rfl, rfl⟩

theorem num_no (A : Option Addr) (nb c : Nat) (bs : List UInt8) (a n : Int) (w : World) (hr : RdS w A nb c bs) (h : n < 1 ∨ 8 < n ∨ a < 0 ∨ (nb : Int) - n < a) :
    Calls Tryd.prog 13 #[.slice A nb c, .int .i64 a, .int .i64 n] w fun e w' => e = .returned (.tuple #[.int .u64 0, .bool false]) ∧ w = w' := by
  have hs := hr.small
  by_cases h1 : n < 1 ∨ 8 < n
  · go_enter Tryd.func13, Tryd.ntmps13
    go_wp2_with (go_at_call 26; refine (width_no _ _ (by omega)).mono ?_; rintro e w' ⟨rfl, rfl⟩)
    go_ret2
    exact ⟨rfl, rfl⟩
  · have h2 : 1 ≤ n ∧ n ≤ 8 := by omega
    obtain ⟨h3, h4⟩ := h2
    by_cases h5 : a < 0
    · go_enter Tryd.func13, Tryd.ntmps13
      go_wp2_with (go_at_call 26; refine (width_yes _ _ (by omega) (by omega)).mono ?_; rintro e w' ⟨rfl, rfl⟩)
      go_ret2
      exact ⟨rfl, rfl⟩
    · have h6 : 0 ≤ a := by omega
      have h7 : (nb : Int) - n < a := by omega
      go_enter Tryd.func13, Tryd.ntmps13
      go_wp2_with (go_at_call 26; refine (width_yes _ _ (by omega) (by omega)).mono ?_; rintro e w' ⟨rfl, rfl⟩)
      go_ret2
      exact ⟨rfl, rfl⟩

theorem num_yes (A : Option Addr) (nb c : Nat) (bs : List UInt8) (p m : Nat) (w : World) (hr : RdS w A nb c bs) (h1 : 1 ≤ m) (h2 : m ≤ 8) (h3 : p + m ≤ nb) :
    Calls Tryd.prog 13 #[.slice A nb c, .int .i64 p, .int .i64 m] w fun e w' => e = .returned (.tuple #[.int .u64 (numb ((bs.drop p).take m)), .bool true]) ∧ w = w' := by
  have hs := hr.small
  have hlen := hr.len
  obtain ⟨b, off, rfl, hlt, hc⟩ := hr.2.2.2.2 (by omega)
  go_enter Tryd.func13, Tryd.ntmps13
  go_wp2_with (go_at_call 26; refine (width_yes _ _ (by omega) (by omega)).mono ?_; rintro e w' ⟨rfl, rfl⟩)
  go_loop [8, 26] (fun x i => ∃ k : Nat, k ≤ m ∧ i = .int .i64 k ∧ x = .int .u64 (numb ((bs.drop p).take k))) (fun _ i => m - (intOf i).toNat)
  case atStart => exact ⟨0, by omega, rfl, by simp [numb]⟩
  case round =>
    obtain ⟨k, hk, rfl, rfl⟩ := hrel
    by_cases hlt : k < m
    · have hcell := hc (p + k) (by omega)
      have hst := num_step (bs.drop p) k (by simp; omega) (by omega)
      have hg : (bs.drop p).getD k 0 = bs.getD (p + k) 0 := by simp [List.getD]
      rw [hg] at hst
      have HS := Lib.hid hst
      clear hst hg
      obtain ⟨y, hy⟩ : ∃ y : UInt8, y = bs.getD (p + k) 0 := ⟨_, rfl⟩
      rw [← hy] at hcell HS
      have HY := Lib.hid hy
      clear hy
      go_wp2
      go_round
      case rel => exact ⟨k + 1, by omega, by go_num, by rw [HS.out]⟩
      case measure => simp [intOf]; omega
    · have hkm : k = m := by omega
      subst hkm
      go_wp2
      go_ret2
      exact ⟨rfl, rfl⟩

theorem u8_info : (Tryd.prog.info? 5).map (fun i => (i.zero, i.size, i.bytes)) = some (some (.int .u8 0), 1, 1) := by kernel_rfl

theorem ext_any (A : Option Addr) (nb c : Nat) (bs : List UInt8) (m : Nat) (w : World) (hr : RdS w A nb c bs) (h : nb + m ≤ 140737488355328) :
    Calls Tryd.prog 48 #[.slice A nb c, .int .i64 m] w fun e w' => e = .returned (.slice (some ⟨w.heap.size, 0, none⟩) (nb + m) (nb + m)) ∧ Blk w' w.heap.size 5 (bs ++ List.replicate m 0) ∧ Below w.heap.size w w' := by
  have hl := hr.len
  have hmk := run_makeB (P := Tryd.prog) Tryd.underlying22 u8_info .i64 .i64 ((nb : Int) + m) ((nb : Int) + m) (nb + m) (by omega) (by omega) (by omega)
  go_enter Tryd.func48, Tryd.ntmps48
  go_wp2_with (with_reducible refine wpList_copy_rd _ rfl (.tmp 11) (.tmp 12) rfl Tryd.underlying22 u8_info w.heap.size (nb + m) (nb + m) (List.replicate (nb + m) 0) rfl (Blk.new w _ _) A nb c bs rfl (hr.below ((Below.refl _ _).alloc (Nat.le_refl _) _)) (Nat.le_add_right _ _) (by simp) w ((Below.refl _ _).alloc (Nat.le_refl _) _) ?_; intro w2 hB2 hb2)
  go_ret
  refine ⟨rfl, ?_, hb2⟩
  have e : (List.replicate (nb + m) (0 : UInt8)).drop nb = List.replicate m 0 := by simp
  rw [← e]
  exact hB2

theorem put_none (A : Option Addr) (nb c : Nat) (bs : List UInt8) (n : Int) (x : Nat) (w : World) (hr : RdS w A nb c bs) (h : n < 1 ∨ 8 < n) (hs : nb ≤ 140737488355328) :
    Calls Tryd.prog 29 #[.slice A nb c, .int .i64 n, .int .u64 x] w fun e w' => e = .returned (.slice (some ⟨w.heap.size, 0, none⟩) nb nb) ∧ Blk w' w.heap.size 5 bs ∧ Below w.heap.size w w' := by
  go_enter Tryd.func29, Tryd.ntmps29
  go_wp2_with (first
    | (go_at_call 26; refine (width_no _ _ (by omega)).mono ?_; rintro e w' ⟨rfl, rfl⟩)
    | (go_at_call 48; refine (ext_any A nb c bs 0 _ hr (by omega)).mono ?_; rintro e w' ⟨rfl, hB, hb⟩))
  go_ret
  exact ⟨rfl, by simpa using hB, hb⟩

theorem put_some (A : Option Addr) (nb c : Nat) (bs : List UInt8) (m x : Nat) (w : World) (hr : RdS w A nb c bs) (h1 : 1 ≤ m) (h2 : m ≤ 8) (hx : x < 18446744073709551616) (hs : nb ≤ 140737488355320) :
    Calls Tryd.prog 29 #[.slice A nb c, .int .i64 m, .int .u64 x] w fun e w' => e = .returned (.slice (some ⟨w.heap.size, 0, none⟩) (nb + m) (nb + m)) ∧ Blk w' w.heap.size 5 (bs ++ beb m x) ∧ Below w.heap.size w w' := by
  have hl := hr.len
  go_enter Tryd.func29, Tryd.ntmps29
  go_wp2_with (first
    | (go_at_call 26; refine (width_yes _ _ (by omega) (by omega)).mono ?_; rintro e w' ⟨rfl, rfl⟩)
    | (go_at_call 48; refine (ext_any A nb c bs m _ hr (by omega)).mono ?_; rintro e w1 ⟨rfl, hB, hb⟩))
  go_loopw [18] (fun i wr => ∃ k : Nat, k ≤ m ∧ i = .int .i64 k ∧ Blk wr w.heap.size 5 (fillB bs (beb m x) m k) ∧ Below w.heap.size w wr) (fun i _ => m - (intOf i).toNat)
  case atStart => exact ⟨0, by omega, rfl, by rw [fillB_zero _ _ _ (length_beb _ _)]; exact hB, hb⟩
  case round =>
    obtain ⟨k, hk, rfl, hBr, hbr⟩ := hrel
    by_cases hlt : k < m
    · have hlf : (fillB bs (beb m x) m k).length = nb + m := by rw [length_fillB _ _ _ _ (length_beb _ _), hl]
      have hcell := hBr.cell (j := nb + m - 1 - k) (by omega)
      have hfr := hBr.frozen (nb + m - 1 - k)
      have hst : Blk (wr.setCell ⟨w.heap.size, nb + m - 1 - k, none⟩ (.int .u8 ((x : Int) / 2 ^ (8 * k) % 256))) w.heap.size 5 (fillB bs (beb m x) m (k + 1)) := by
        rw [byte_of, ← fillB_step bs (beb m x) m k (length_beb _ _) hlt (UInt8.ofNat (x / 256 ^ k)) (by rw [beb_at _ _ _ (by omega)]; congr 3; omega), show bs.length + (m - 1 - k) = nb + m - 1 - k by omega]
        exact hBr.set_ _ _
      have hbs := hbr.setCell (p := ⟨w.heap.size, nb + m - 1 - k, none⟩) (Nat.le_refl _) (.int .u8 ((x : Int) / 2 ^ (8 * k) % 256))
      have HL := Lib.hid hlf
      clear hlf
      obtain ⟨y, hy⟩ : ∃ y : Value, y = (.int .u8 (((fillB bs (beb m x) m k).getD (nb + m - 1 - k) 0).toNat : Int)) := ⟨_, rfl⟩
      rw [← hy] at hcell
      clear hy
      go_wp2
      go_roundw
      case rel => exact ⟨k + 1, by omega, by go_num, hst, hbs⟩
      case measure => simp [intOf]; omega
    · have hkm : k = m := by omega
      subst hkm
      go_wp2
      go_ret
      exact ⟨rfl, by simpa [fillB_all] using hBr, hbr⟩

theorem byteAt_any (A : Option Addr) (nb c : Nat) (bs : List UInt8) (k : Nat) (w : World) (hr : RdS w A nb c bs) (hk : k ≤ 9223372036854775807) :
    Calls Tryd.prog 68 #[.slice A nb c, .int .i64 k] w fun e w' => e = .returned (.int .u8 ((bs.getD k 0).toNat : Int)) ∧ w = w' := by
  have hs := hr.small
  have hl := hr.len
  by_cases h : k < nb
  · obtain ⟨b, off, rfl, hlt, hc⟩ := hr.2.2.2.2 (by omega)
    have hcell := hc k h
    obtain ⟨y, hy⟩ : ∃ y : UInt8, y = bs.getD k 0 := ⟨_, rfl⟩
    rw [← hy] at hcell ⊢
    clear hy hl hc hr
    go_enter Tryd.func68, Tryd.ntmps68
    go_wp2
    go_ret
    exact ⟨rfl, rfl⟩
  · have hy : bs.getD k 0 = 0 := by simp [List.getD, show bs.length ≤ k by omega]
    rw [hy]
    clear hy hl
    go_enter Tryd.func68, Tryd.ntmps68
    go_wp2
    go_ret
    exact ⟨rfl, rfl⟩

theorem same_any (A : Option Addr) (na c : Nat) (xs : List UInt8) (A' : Option Addr) (nb c' : Nat) (bs : List UInt8) (w : World) (hr : RdS w A na c xs) (hr' : RdS w A' nb c' bs) (t : Bool) (ht : t = decide (xs = bs)) :
    Calls Tryd.prog 58 #[.slice A na c, .slice A' nb c'] w fun e w' => e = .returned (.bool t) ∧ w = w' := by
  have hs := hr.small
  have hs' := hr'.small
  have hl := hr.len
  have hl' := hr'.len
  have key : ∀ M : Nat, xs.length ≤ M ∧ bs.length ≤ M ∧ (M = xs.length ∨ M = bs.length) → _ := fun M h => diffs_end xs bs M h t ht
  rcases Nat.lt_or_ge na nb with hlt | hge
  · have hE := key nb ⟨by omega, by omega, .inr hl'.symm⟩
    have hne := hE.2 (by omega)
    subst hne
    clear key hE hl hl' ht
    go_enter Tryd.func58, Tryd.ntmps58
    go_wp2
    go_loop [5, 12] (fun d i => ∃ k : Nat, k ≤ nb ∧ i = .int .i64 k ∧ d = .int .u8 (diffs xs bs k)) (fun _ i => nb - (intOf i).toNat)
    case atStart => exact ⟨0, by omega, rfl, rfl⟩
    case round =>
      obtain ⟨k, hk, rfl, rfl⟩ := hrel
      by_cases hkb : k < nb
      · have HS := Lib.hid (diffs_step xs bs k)
        obtain ⟨y, hy⟩ : ∃ y : Int, y = ((xs.getD k 0).toNat : Int) := ⟨_, rfl⟩
        obtain ⟨z, hz⟩ : ∃ z : Int, z = ((bs.getD k 0).toNat : Int) := ⟨_, rfl⟩
        have H1 := byteAt_any A na c xs k w hr (by omega)
        have H2 := byteAt_any A' nb c' bs k w hr' (by omega)
        rw [← hy] at HS H1
        rw [← hz] at HS H2
        have HY := Lib.hid hy
        have HZ := Lib.hid hz
        clear hy hz
        have H1' := Lib.hid H1
        have H2' := Lib.hid H2
        clear H1 H2
        go_wp2_with (first
          | (go_at_call 68; ((with_reducible refine (Hid.out H1').mono ?_); rintro e w' ⟨rfl, rfl⟩))
          | (go_at_call 68; ((with_reducible refine (Hid.out H2').mono ?_); rintro e w' ⟨rfl, rfl⟩)))
        go_round
        case rel => exact ⟨k + 1, by omega, by go_num, by rw [HS.out]⟩
        case measure => simp [intOf]; omega
      · have hkm : k = nb := by omega
        subst hkm
        have hd2 : ((na : Int) == (k : Int)) = false := by simp; omega
        go_wp2
        all_goals (go_ret; exact ⟨rfl, rfl⟩)
  · have hE := key na ⟨by omega, by omega, .inl hl.symm⟩
    clear key ht
    go_enter Tryd.func58, Tryd.ntmps58
    go_wp2
    go_loop [5, 12] (fun d i => ∃ k : Nat, k ≤ na ∧ i = .int .i64 k ∧ d = .int .u8 (diffs xs bs k)) (fun _ i => na - (intOf i).toNat)
    case atStart => exact ⟨0, by omega, rfl, rfl⟩
    case round =>
      obtain ⟨k, hk, rfl, rfl⟩ := hrel
      by_cases hkb : k < na
      · have HS := Lib.hid (diffs_step xs bs k)
        obtain ⟨y, hy⟩ : ∃ y : Int, y = ((xs.getD k 0).toNat : Int) := ⟨_, rfl⟩
        obtain ⟨z, hz⟩ : ∃ z : Int, z = ((bs.getD k 0).toNat : Int) := ⟨_, rfl⟩
        have H1 := byteAt_any A na c xs k w hr (by omega)
        have H2 := byteAt_any A' nb c' bs k w hr' (by omega)
        rw [← hy] at HS H1
        rw [← hz] at HS H2
        clear hE hl hl'
        have HY := Lib.hid hy
        have HZ := Lib.hid hz
        clear hy hz
        have H1' := Lib.hid H1
        have H2' := Lib.hid H2
        clear H1 H2
        go_wp2_with (first
          | (go_at_call 68; ((with_reducible refine (Hid.out H1').mono ?_); rintro e w' ⟨rfl, rfl⟩))
          | (go_at_call 68; ((with_reducible refine (Hid.out H2').mono ?_); rintro e w' ⟨rfl, rfl⟩)))
        go_round
        case rel => exact ⟨k + 1, by omega, by go_num, by rw [HS.out]⟩
        case measure => simp [intOf]; omega
      · obtain rfl : k = na := by omega
        by_cases hnn : k = nb
        · have h0 := hE.1 (by omega)
          subst hnn
          clear hE hl hl'
          cases t
          · have hd : ((diffs xs bs k : Int) == 0) = false := by
              have : diffs xs bs k ≠ 0 := fun h => by simpa using h0.1 h
              simp; omega
            clear h0
            go_wp2
            go_ret
            exact ⟨rfl, rfl⟩
          · have hd : diffs xs bs k = 0 := h0.2 rfl
            clear h0
            go_wp2
            go_ret
            exact ⟨rfl, rfl⟩
        · have h0 := hE.2 (by omega)
          subst h0
          have hlt : nb < k := by omega
          have hd2 : ((k : Int) == (nb : Int)) = false := by simp; omega
          clear hE hl hl' hnn
          go_wp2
          all_goals (go_ret; exact ⟨rfl, rfl⟩)
end Go.Proofs.YtmkeioeodlidgaaDoor
