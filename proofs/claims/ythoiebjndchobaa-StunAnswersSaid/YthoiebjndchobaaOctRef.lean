/- What the document's answers for layer 1 (tenailleref01) answer, and what they leave of memory: contracts that the proofs of the statements use. No statement is proved here. -/
import Derived.Test.YthoiebjndchobaaProg
import Derived.Test.YthoiebjndchobaaBytes
import Derived.Test.YthoiebjndchobaaNums
import Derived.KernelRfl
import Derived.Lib.Hide
namespace Go.Proofs.Ythoiebjndchobaa
open Go.RowKit
set_option linter.unusedVariables false

theorem u8_infoR : (Try.prog.info? 5).map (fun i => (i.zero, i.size, i.bytes)) = some (some (.int .u8 0), 1, 1) := by kernel_rfl

/-- Are n bytes there? -/
def thereB (nb : Nat) (a n : Int) : Bool := decide (1 ≤ n ∧ n ≤ 8 ∧ 0 ≤ a ∧ a ≤ (nb : Int) - n)

theorem rnum_yes (A : Option Addr) (nb c : Nat) (bs : List UInt8) (p m : Nat) (w : World) (hr : RdS w A nb c bs) (h1 : 1 ≤ m) (h2 : m ≤ 8) (h3 : p + m ≤ nb) :
    Calls Try.prog 19 #[.slice A nb c, .int .i64 p, .int .i64 m] w fun e w' => e = .returned (.int .u64 (numb ((bs.drop p).take m))) ∧ w = w' := by
  have hs := hr.small
  have hlen := hr.len
  obtain ⟨b, off, rfl, hlt, hc⟩ := hr.2.2.2.2 (by omega)
  clear hr
  obtain ⟨L, hL⟩ : ∃ L, L = (bs.drop p).take m := ⟨_, rfl⟩
  have hLl : L.length = m := by rw [hL]; simp; omega
  have hLc : ∀ k, k < m → w.cell? ⟨b, off + (p + m - 1 - k), none⟩ = some (.int .u8 ((L.getD (m - 1 - k) 0).toNat : Int)) := fun k hk => by
    have : L.getD (m - 1 - k) 0 = bs.getD (p + (m - 1 - k)) 0 := by
      rw [hL]
      simp [List.getD, show m - 1 - k < m by omega]
    rw [this, show p + m - 1 - k = p + (m - 1 - k) by omega]
    exact hc _ (by omega)
  rw [← hL]
  have HL := Lib.hid hL
  clear hL hc hlen
  go_enter Try.func19, Try.ntmps19
  go_wp2
  go_loop [7, 8, 9] (fun x q i => ∃ k : Nat, k ≤ m ∧ i = .int .i64 ((p : Int) + m - 1 - k) ∧ x = .int .u64 (numb (L.drop (m - k))) ∧ q = .int .u64 (powW k)) (fun _ _ i => (intOf i + 1 - p).toNat)
  case atStart => exact ⟨0, by omega, by go_num, by simp [numb, ← hLl], by rfl⟩
  case round =>
    obtain ⟨k, hk, rfl, rfl, rfl⟩ := hrel
    by_cases hlt : k < m
    · have hcell := hLc k hlt
      obtain ⟨y, hy⟩ : ∃ y : Int, y = ((L.getD (m - 1 - k) 0).toNat : Int) := ⟨_, rfl⟩
      have hy0 : 0 ≤ y ∧ y ≤ 255 := by have := (L.getD (m - 1 - k) 0).toNat_lt; omega
      have HS := Lib.hid (rnum_step L m k hLl hlt h2 y hy)
      have HP := Lib.hid (powW_step k)
      rw [← hy] at hcell
      clear hy hLc
      go_wp2
      go_round
      case rel => exact ⟨k + 1, by omega, by go_num, by rw [HS.out], by rw [HP.out]⟩
      case measure => simp [intOf]; omega
    · have hkm : k = m := by omega
      subst hkm
      have e0 : L.drop (k - k) = L := by simp
      rw [e0]
      clear e0 hLc
      go_wp2
      go_ret
      exact ⟨rfl, rfl⟩

/-- What a function that makes bytes leaves: the bytes in a row of its own, and nothing below turned. -/
def Made (w : World) (bs : List UInt8) (e : Ending) (w' : World) : Prop :=
  ∃ v, e = .returned v ∧ w'.ownsRow w.heap.size 5 1 v bs.length (cells bs) ∧ Below w.heap.size w w'

theorem own_empty (w : World) : (w.alloc (.cells #[] 5)).ownsRow w.heap.size 5 1 (.slice (some ⟨w.heap.size, 0, none⟩) 0 0) 0 (cells []) :=
  World.ownsRow_lit w #[] 0 (Nat.le_refl _) (by simp) rfl

/-- Behind the append onto an empty row of the call's own. -/
theorem own_first {w w1 : World} {v1 : Value} {nb : Nat} {bs : List UInt8} (hl : bs.length = nb) (h : w1.ownsRow w.heap.size 5 1 v1 (0 + nb) (cells ([] ++ bs)))
    (hg : (w.alloc (.cells #[] 5)).grownBy w1 (Value.ownBlock (.slice (some ⟨w.heap.size, 0, none⟩) 0 0))) :
    w1.ownsRow w.heap.size 5 1 v1 nb (cells bs) ∧ Below w.heap.size w w1 :=
  ⟨by simpa using h, ((Below.refl _ _).alloc (Nat.le_refl _) _).grown hg (by simp) (fun k hk => by simp [Value.ownBlock] at hk; omega)⟩

theorem rput_none (A : Option Addr) (nb c : Nat) (bs : List UInt8) (n : Int) (x : Nat) (w : World) (hr : RdS w A nb c bs) (h : n < 1 ∨ 8 < n) (hs : nb ≤ 1073741823) :
    Calls Try.prog 23 #[.slice A nb c, .int .i64 n, .int .u64 x] w (Made w bs) := by
  have hd : n < 1 ∨ (1 ≤ n ∧ decide (8 < n) = true) := by
    rcases h with h | h
    · exact .inl h
    · exact .inr ⟨by omega, by simpa using h⟩
  have hl := hr.len
  rcases hd with h | ⟨h, h'⟩
  all_goals
    go_enter Try.func23, Try.ntmps23
    go_wp2_with (at_builtin; refine wpList_append_rd _ rfl (.tmp 10) (.tmp 11) rfl Try.underlying22 u8_infoR w.heap.size (.slice (some ⟨w.heap.size, 0, none⟩) 0 0) 0 [] rfl (own_empty w) A nb c bs rfl (hr.below ((Below.refl _ _).alloc (Nat.le_refl _) _)) (by omega) (by simp) ?_; intro v1 w1 hown1 hg1 hat1)
    obtain ⟨ho, hb⟩ := own_first hl hown1 hg1
    go_ret
    exact ⟨v1, rfl, by rw [hl]; exact ho, hb⟩

theorem rput_some (A : Option Addr) (nb c : Nat) (bs : List UInt8) (m x : Nat) (w : World) (hr : RdS w A nb c bs) (h1 : 1 ≤ m) (h2 : m ≤ 8) (hx : x < 18446744073709551616) (hs : nb ≤ 1073741823) :
    Calls Try.prog 23 #[.slice A nb c, .int .i64 m, .int .u64 x] w (Made w (bs ++ beb m x)) := by
  have hl := hr.len
  have hmk := run_makeB (P := Try.prog) Try.underlying22 u8_infoR .i64 .i64 (m : Int) (m : Int) m rfl rfl (by omega)
  go_enter Try.func23, Try.ntmps23
  go_wp2_with (at_builtin; refine wpList_append_rd _ rfl (.tmp 10) (.tmp 11) rfl Try.underlying22 u8_infoR w.heap.size (.slice (some ⟨w.heap.size, 0, none⟩) 0 0) 0 [] rfl (own_empty w) A nb c bs rfl (hr.below ((Below.refl _ _).alloc (Nat.le_refl _) _)) (by omega) (by simp) ?_; intro v1 w1 hown1 hg1 hat1)
  obtain ⟨ho, hb⟩ := own_first hl hown1 hg1
  have hltb := ho.lt
  clear hown1 hg1 hat1
  go_loopw [2, 9] (fun y i wr => ∃ k X : Nat, k ≤ m ∧ X ≤ x ∧ i = .int .i64 ((m : Int) - 1 - k) ∧ y = .int .u64 X ∧ Hid (X = x / 256 ^ k) ∧ wr.ownsRow w.heap.size 5 1 v1 nb (cells bs) ∧ Blk wr w1.heap.size 5 (fillB [] (beb m x) m k) ∧ Below w.heap.size w wr) (fun _ i _ => (intOf i + 1).toNat)
  case atStart => exact ⟨0, x, by omega, Nat.le_refl _, by go_num, rfl, Lib.hid (by simp), ho.alloc _, by rw [fillB_zero _ _ _ (length_beb _ _)]; exact Blk.new _ _ _, hb.alloc hb.size _⟩
  case round =>
    obtain ⟨k, X, hk, hXx, rfl, rfl, hX, hor, hBr, hbr⟩ := hrel
    by_cases hlt : k < m
    · have hcell := hBr.cell (j := m - 1 - k) (by rw [length_fillB _ _ _ _ (length_beb _ _)]; simp; omega)
      have hfr := hBr.frozen (m - 1 - k)
      have hst : Blk (wr.setCell ⟨w1.heap.size, m - 1 - k, none⟩ (.int .u8 ((X : Int) % 256))) w1.heap.size 5 (fillB [] (beb m x) m (k + 1)) := by
        rw [byte_mod, ← fillB_step [] (beb m x) m k (length_beb _ _) hlt (UInt8.ofNat X) (by rw [beb_at _ _ _ (by omega), hX.out]; congr 3; omega)]
        have h3 := hBr.set_ (m - 1 - k) (UInt8.ofNat X)
        simpa only [List.length_nil, Nat.zero_add] using h3
      have hbs := hbr.setCell (p := ⟨w1.heap.size, m - 1 - k, none⟩) hb.size (.int .u8 ((X : Int) % 256))
      have hos := hor.kept (row := some w1.heap.size) (w' := wr.setCell ⟨w1.heap.size, m - 1 - k, none⟩ (.int .u8 ((X : Int) % 256))) ⟨rfl, rfl, rfl, by simp [World.setCell], fun i _ hi => Below.heap_setCell _ _ _ _ (fun e => hi (by rw [e]))⟩ (by
        rcases hv : v1.ownBlock with _ | q
        · exact .inl rfl
        · refine .inr fun e => ?_
          have := (hltb q hv).2
          injection e with e
          omega)
      have hX2 : Hid (X / 256 = x / 256 ^ (k + 1)) := Lib.hid (by rw [hX.out, div_pow_step])
      have hXl : X / 256 ≤ x := by omega
      obtain ⟨u, hu⟩ : ∃ u : Value, u = (.int .u8 (((fillB [] (beb m x) m k).getD (m - 1 - k) 0).toNat : Int)) := ⟨_, rfl⟩
      rw [← hu] at hcell
      clear hu hltb
      go_wp2
      go_roundw
      case rel => exact ⟨k + 1, X / 256, by omega, hXl, by go_num, by go_num, hX2, hos, hst, hbs⟩
      case measure => simp [intOf]; omega
    · obtain rfl : k = m := by omega
      rw [fillB_all, List.nil_append] at hBr
      clear hltb
      go_wp2_with (at_builtin; refine wpList_append_rd _ rfl (.tmp 36) (.tmp 37) rfl Try.underlying22 u8_infoR w.heap.size v1 nb bs rfl hor (some ⟨w1.heap.size, 0, none⟩) k k (beb k x) rfl (hBr.rd (length_beb _ _) (Nat.le_refl _) (by simp [maxLen]; omega)) (by omega) hbr.size ?_; intro v2 w2 hown2 hg2 hat2)
      go_ret
      exact ⟨v2, rfl, by rw [List.length_append, length_beb, hl]; exact hown2, hbr.grown hg2 hbr.size (fun q hq => (hor.lt q hq).1)⟩

theorem rd_zero (w : World) : RdS (w.alloc (.cells #[.int .u8 0] 5)) (some ⟨w.heap.size, 0, none⟩) 1 1 [0] :=
  (show Blk (w.alloc (.cells #[.int .u8 0] 5)) w.heap.size 5 [0] from Blk.new w _ [0]).rd rfl (Nat.le_refl _) (by simp [maxLen])

theorem rfill_none (A : Option Addr) (nb c : Nat) (bs : List UInt8) (n : Int) (w : World) (hr : RdS w A nb c bs) (h : n < 1) (hs : nb ≤ 1073741823) :
    Calls Try.prog 24 #[.slice A nb c, .int .i64 n] w (Made w bs) := by
  have hl := hr.len
  have hd : decide (1 ≤ n) = false := by simp; omega
  go_enter Try.func24, Try.ntmps24
  go_wp2_with (at_builtin; refine wpList_append_rd _ rfl (.tmp 6) (.tmp 7) rfl Try.underlying22 u8_infoR w.heap.size (.slice (some ⟨w.heap.size, 0, none⟩) 0 0) 0 [] rfl (own_empty w) A nb c bs rfl (hr.below ((Below.refl _ _).alloc (Nat.le_refl _) _)) (by omega) (by simp) ?_; intro v1 w1 hown1 hg1 hat1)
  obtain ⟨ho, hb⟩ := own_first hl hown1 hg1
  refine wp_loop_rounds 1 ?_
  rw [rounds_succ]
  go_wp2
  go_ret
  exact ⟨v1, rfl, by rw [hl]; exact ho, hb⟩

/-- The length in a slot. -/
def lenOf : Value → Nat
  | .slice _ n _ => n
  | _ => 0

theorem rfill_some (A : Option Addr) (nb c : Nat) (bs : List UInt8) (n : Nat) (w : World) (hr : RdS w A nb c bs) (h : 1 ≤ n) (hn : n ≤ 1073741823) (hs : nb ≤ 1073741823) :
    Calls Try.prog 24 #[.slice A nb c, .int .i64 n] w (Made w (bs ++ List.replicate (lacks nb n) 0)) := by
  have hl := hr.len
  have hlk := lacks_lt nb n h
  obtain ⟨L, hL⟩ : ∃ L, L = lacks nb n := ⟨_, rfl⟩
  have hend := lacks_end nb n h
  have hon := fun k => lacks_on nb n k h
  rw [← hL] at hlk hend hon ⊢
  clear hL
  go_enter Try.func24, Try.ntmps24
  go_wp2_with (at_builtin; refine wpList_append_rd _ rfl (.tmp 6) (.tmp 7) rfl Try.underlying22 u8_infoR w.heap.size (.slice (some ⟨w.heap.size, 0, none⟩) 0 0) 0 [] rfl (own_empty w) A nb c bs rfl (hr.below ((Below.refl _ _).alloc (Nat.le_refl _) _)) (by omega) (by simp) ?_; intro v1 w1 hown1 hg1 hat1)
  obtain ⟨ho, hb⟩ := own_first hl hown1 hg1
  clear hown1 hg1 hat1
  go_loopw [5] (fun v wr => ∃ (k M : Nat) (A' : Option Addr) (c' : Nat), k ≤ L ∧ Hid (M = nb + k) ∧ v = .slice A' M c' ∧ wr.ownsRow w.heap.size 5 1 (.slice A' M c') M (cells (bs ++ List.replicate k 0)) ∧ Below w.heap.size w wr) (fun v _ => nb + L - lenOf v)
  case atStart =>
    obtain ⟨A', c', hv⟩ := own_form ho
    exact ⟨0, nb, A', c', by omega, Lib.hid rfl, hv, by subst hv; simpa using ho, hb⟩
  case round =>
    obtain ⟨k, M, A', c', hk, hM, rfl, hor, hbr⟩ := hrel
    by_cases hlt : k < L
    · have h0 := hon k hlt
      have hMn : M ≤ nb + k := by have := hM.out; omega
      have hMn' : nb + k ≤ M := by have := hM.out; omega
      rw [← hM.out] at h0
      have hd : (0 : Int) < (M : Int) % (n : Int) := by omega
      clear h0 hon hend
      go_wp2_with (at_builtin; refine wpList_append_rd _ rfl (.tmp 18) (.tmp 19) rfl Try.underlying22 u8_infoR w.heap.size (.slice A' M c') M (bs ++ List.replicate k 0) rfl (hor.alloc _) (some ⟨wr.heap.size, 0, none⟩) 1 1 [0] rfl (rd_zero wr) (by omega) (Nat.le_trans hbr.size (by simp)) ?_; intro v2 w2 hown2 hg2 hat2)
      obtain ⟨A2, c2, hv2⟩ := own_form hown2
      have hb2 := (hbr.alloc hbr.size (.cells #[.int .u8 0] 5)).grown hg2 (Nat.le_trans hbr.size (by simp)) (fun q hq => (hor.lt q hq).1)
      have hown3 : w2.ownsRow w.heap.size 5 1 (.slice A2 (M + 1) c2) (M + 1) (cells (bs ++ List.replicate (k + 1) 0)) := by
        rw [hv2, List.append_assoc, ← List.replicate_succ'] at hown2
        exact hown2
      have hM2 : Hid (M + 1 = nb + (k + 1)) := Lib.hid (by omega)
      rw [hv2]
      go_roundw
      case rel => exact ⟨k + 1, M + 1, A2, c2, by omega, hM2, rfl, hown3, hb2⟩
      case measure => simp [lenOf]; omega
    · obtain rfl : k = L := by omega
      rw [← hM.out] at hend
      have hd : decide ((0 : Int) < (M : Int) % (n : Int)) = false := by simp; omega
      have hMl : M = (bs ++ List.replicate k (0 : UInt8)).length := by simp [hM.out, hl]
      have HM := Lib.hid hMl
      clear hMl hend hon
      go_wp2
      go_ret
      exact ⟨_, rfl, by rw [← HM.out]; exact hor, hbr⟩
end Go.Proofs.Ythoiebjndchobaa
