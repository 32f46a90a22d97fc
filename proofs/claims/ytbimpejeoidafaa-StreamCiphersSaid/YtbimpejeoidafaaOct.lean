/- What the functions of package octets answer, and what they leave of memory: contracts that the proofs of the statements use. No statement is proved here. -/
import Derived.Test.YtbimpejeoidafaaProg
import Derived.Test.YtbimpejeoidafaaBytes
import Derived.Test.YtbimpejeoidafaaNums
import Derived.KernelRfl
import Derived.Lib.Hide
namespace Go.Proofs.Ytbimpejeoidafaa
open Go.RowKit
set_option linter.unusedVariables false

theorem width_yes (n : Int) (w : World) (h1 : 1 ≤ n) (h2 : n ≤ 8) : Calls Try.prog 20 #[.int .i64 n] w fun e w' => e = .returned (.bool true) ∧ w = w' := by
  go_enter Try.func20, Try.ntmps20
  go_wp2
  go_ret
  exact ⟨rfl, rfl⟩
theorem width_no (n : Int) (w : World) (h : n < 1 ∨ 8 < n) : Calls Try.prog 20 #[.int .i64 n] w fun e w' => e = .returned (.bool false) ∧ w = w' := by
  rcases h with h | h
  · go_enter Try.func20, Try.ntmps20
    go_wp2
    go_ret
    exact ⟨rfl, rfl⟩
  · have h1 : 1 ≤ n := by omega
    have hd : decide (n ≤ 8) = false := by simp; omega
    go_enter Try.func20, Try.ntmps20
    go_wp2
    go_ret
    exact ⟨rfl, rfl⟩

theorem u8_info : (Try.prog.info? 5).map (fun i => (i.zero, i.size, i.bytes)) = some (some (.int .u8 0), 1, 1) := by kernel_rfl

theorem ext_any (A : Option Addr) (nb c : Nat) (bs : List UInt8) (m : Nat) (w : World) (hr : RdS w A nb c bs) (h : nb + m ≤ 140737488355328) :
    Calls Try.prog 21 #[.slice A nb c, .int .i64 m] w fun e w' => e = .returned (.slice (some ⟨w.heap.size, 0, none⟩) (nb + m) (nb + m)) ∧ Blk w' w.heap.size 5 (bs ++ List.replicate m 0) ∧ Below w.heap.size w w' := by
  have hl := hr.len
  have hmk := run_makeB (P := Try.prog) Try.underlying31 u8_info .i64 .i64 ((nb : Int) + m) ((nb : Int) + m) (nb + m) (by omega) (by omega) (by omega)
  go_enter Try.func21, Try.ntmps21
  go_wp2_with (with_reducible refine wpList_copy_rd _ rfl (.tmp 11) (.tmp 12) rfl Try.underlying31 u8_info w.heap.size (nb + m) (nb + m) (List.replicate (nb + m) 0) rfl (Blk.new w _ _) A nb c bs rfl (hr.below ((Below.refl _ _).alloc (Nat.le_refl _) _)) (Nat.le_add_right _ _) (by simp) w ((Below.refl _ _).alloc (Nat.le_refl _) _) ?_; intro w2 hB2 hb2)
  go_ret
  refine ⟨rfl, ?_, hb2⟩
  have e : (List.replicate (nb + m) (0 : UInt8)).drop nb = List.replicate m 0 := by simp
  rw [← e]
  exact hB2

theorem put_none (A : Option Addr) (nb c : Nat) (bs : List UInt8) (n : Int) (x : Nat) (w : World) (hr : RdS w A nb c bs) (h : n < 1 ∨ 8 < n) (hs : nb ≤ 140737488355328) :
    Calls Try.prog 14 #[.slice A nb c, .int .i64 n, .int .u64 x] w fun e w' => e = .returned (.slice (some ⟨w.heap.size, 0, none⟩) nb nb) ∧ Blk w' w.heap.size 5 bs ∧ Below w.heap.size w w' := by
  go_enter Try.func14, Try.ntmps14
  go_wp2_with (first
    | (go_at_call 20; refine (width_no _ _ (by omega)).mono ?_; rintro e w' ⟨rfl, rfl⟩)
    | (go_at_call 21; refine (ext_any A nb c bs 0 _ hr (by omega)).mono ?_; rintro e w' ⟨rfl, hB, hb⟩))
  go_ret
  exact ⟨rfl, by simpa using hB, hb⟩

theorem put_some (A : Option Addr) (nb c : Nat) (bs : List UInt8) (m x : Nat) (w : World) (hr : RdS w A nb c bs) (h1 : 1 ≤ m) (h2 : m ≤ 8) (hx : x < 18446744073709551616) (hs : nb ≤ 140737488355320) :
    Calls Try.prog 14 #[.slice A nb c, .int .i64 m, .int .u64 x] w fun e w' => e = .returned (.slice (some ⟨w.heap.size, 0, none⟩) (nb + m) (nb + m)) ∧ Blk w' w.heap.size 5 (bs ++ beb m x) ∧ Below w.heap.size w w' := by
  have hl := hr.len
  go_enter Try.func14, Try.ntmps14
  go_wp2_with (first
    | (go_at_call 20; refine (width_yes _ _ (by omega) (by omega)).mono ?_; rintro e w' ⟨rfl, rfl⟩)
    | (go_at_call 21; refine (ext_any A nb c bs m _ hr (by omega)).mono ?_; rintro e w1 ⟨rfl, hB, hb⟩))
  go_loopw [18] (fun i wr => ∃ k : Nat, k ≤ m ∧ i = .int .i64 k ∧ Blk wr w.heap.size 5 (fillB bs (beb m x) m k) ∧ Below w.heap.size w wr) (fun i _ => m - (intOf i).toNat)
  case atStart => exact ⟨0, by omega, rfl, by rw [fillB_zero _ _ _ (length_beb _ _)]; exact hB, hb⟩
  case round =>
    obtain ⟨k, hk, rfl, hBr, hbr⟩ := hrel
    by_cases hlt : k < m
    · have hlf : (fillB bs (beb m x) m k).length = nb + m := by rw [length_fillB _ _ _ _ (length_beb _ _), hl]
      have hcell := hBr.cell (j := nb + m - 1 - k) (by omega)
      have hfr := hBr.frozen (nb + m - 1 - k)
      have hst : Blk (wr.setCell ⟨w.heap.size, nb + m - 1 - k, none⟩ (.int .u8 ((x : Int) / 2 ^ (8 * k) % 256))) w.heap.size 5 (fillB bs (beb m x) m (k + 1)) := by
        rw [byte_of, ← fillB_step bs (beb m x) m k (length_beb _ _) hlt (UInt8.ofNat (x / 256 ^ k)) (by rw [beb_at _ _ _ (by omega)]; congr 3; omega), show bs.length + (m - 1 - k) = nb + m - 1 - k by omega]
        exact hBr.set_ _ _
      have hbs := hbr.setCell (p := ⟨w.heap.size, nb + m - 1 - k, none⟩) (Nat.le_refl _) (.int .u8 ((x : Int) / 2 ^ (8 * k) % 256))
      have HL := Lib.hid hlf
      clear hlf
      obtain ⟨y, hy⟩ : ∃ y : Value, y = (.int .u8 (((fillB bs (beb m x) m k).getD (nb + m - 1 - k) 0).toNat : Int)) := ⟨_, rfl⟩
      rw [← hy] at hcell
      clear hy
      go_wp2
      go_roundw
      case rel => exact ⟨k + 1, by omega, by go_num, hst, hbs⟩
      case measure => simp [intOf]; omega
    · have hkm : k = m := by omega
      subst hkm
      go_wp2
      go_ret
      exact ⟨rfl, by simpa [fillB_all] using hBr, hbr⟩

end Go.Proofs.Ytbimpejeoidafaa
