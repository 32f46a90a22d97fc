/- What the document's answers for layer 8 (tenailleref08) answer: contracts of Mark, Count. No statement is proved here. -/
import Derived.Test.YtdemelbgdgfliaaWinR1
namespace Go.Proofs.Ytdemelbgdgfliaa
open Go.RowKit
set_option linter.unusedVariables false

theorem i64_inf : (Try.prog.info? 2).map (fun i => (i.zero, i.size, i.bytes)) = some (some (.int .i64 0), 1, 8) := by kernel_rfl

set_option maxRecDepth 100000 in
theorem rmark_any (base r : Nat) (L : List Int) (x : Int) (w : World) (h : RW base r L w) (hl : L.length ≤ 1000) (hx : -9223372036854775808 ≤ x ∧ x ≤ 4611686018427387904) (ht : hiL L ≤ 4611686018427387904) (hr : r < base) (hbs : base ≤ w.heap.size) :
    Calls Try.prog 11 #[.pointer (some ⟨r, 0, none⟩), .int .i64 x] w fun e w' => e = .returned (.bool (frL L x)) ∧ RW base r (mkL L x) w' ∧ Below r w w' := by
  have hf := rfresh_any base r L x w h hl hx ht
  cases hfr : frL L x
  · rw [hfr] at hf
    rw [mkL_not hfr]
    have HF := Lib.hid hf
    have HR := Lib.hid h
    clear h hf hfr
    go_enter Try.func11, Try.ntmps11
    go_wp2_with (go_at_call 9; ((with_reducible refine (Hid.out HF).mono ?_); rintro e w' ⟨rfl, rfl⟩))
    go_ret
    exact ⟨rfl, HR.out, Below.refl _ _⟩
  rw [hfr] at hf
  rw [mkL_of hfr]
  have HF := Lib.hid hf
  obtain ⟨A, c, hB, hO⟩ := h
  have hc : w.cell? ⟨r, 0, none⟩ = some (.slice A L.length c) := (hB.cell 0).trans rfl
  have hrl := hB.lt
  have hB1 := hB.alloc (.cells #[.int .i64 x] 2)
  have hO1 := hO.alloc (.cells #[.int .i64 x] 2)
  have hx1 : (w.alloc (.cells #[.int .i64 x] 2)).cell? (Addr.add ⟨w.heap.size, 0, none⟩ 0) = some (.int .i64 x) := by
    rw [add_lit]
    exact ((BlkV.new w 2 [.int .i64 x]).cell 0).trans rfl
  have HB1 := Lib.hid (And.intro hB1 hO1)
  clear hf hB hO hB1 hO1
  obtain ⟨n, hn⟩ : ∃ n, n = L.length := ⟨_, rfl⟩
  rw [← hn] at HB1 hl hc
  have HN := Lib.hid hn
  clear hn hfr
  go_enter Try.func11, Try.ntmps11
  go_wp2_with (first
    | (go_at_call 9; ((with_reducible refine (Hid.out HF).mono ?_); rintro e w' ⟨rfl, rfl⟩))
    | ((with_reducible refine wpList_app1 _ rfl (.tmp 13) (.tmp 15) rfl Try.underlying22 i64_inf rfl (by omega) base (.slice A n c) n (icells L) rfl HB1.out.2 ⟨w.heap.size, 0, none⟩ 1 rfl (.int .i64 x) hx1 rfl (by omega) (by simp; omega) ?_); intro v2 w2 hown hg _ _; obtain ⟨A2, c2, hv2⟩ := own_form hown; subst hv2; have hB2 := HB1.out.1.grown hg (fun e => by have := HB1.out.2.lt r e.symm; omega); have hr2 := hB2.frozen 0; have hc2 := hB2.cell 0; simp only [List.getElem?_cons_zero] at hc2; have HS := Lib.hid hB2; have HO := Lib.hid hown; have HG := Lib.hid hg; clear hB2 hown hg))
  go_ret
  have hB3 := HS.out.set_ 0 (.slice A2 (n + 1) c2)
  have hO3 := ownsRow_setCell_below HO.out (a := ⟨r, 0, none⟩) hr (.slice A2 (n + 1) c2)
  have b1 : Below r w (w.alloc (.cells #[.int .i64 x] 2)) := (Below.refl _ _).alloc (by omega) _
  have b2 := b1.trans (below_of_grown HG.out (by simp; omega) (fun k hk => by have := HB1.out.2.lt k hk; omega))
  refine ⟨rfl, ⟨A2, c2, ?_, ?_⟩, b2.trans ((Only.set w2 r 0 (.slice A2 (n + 1) c2)).below (Nat.le_refl _))⟩
  · rw [List.length_append, ← HN.out]; exact hB3
  · rw [List.length_append, ← HN.out, icells_snoc]; exact hO3

/-- How many of the first k were in the window below h. -/
def ctk (h : Int) (L : List Int) (k : Nat) : Nat := (L.take k).countP (fun y => decide (h < y + 64))
theorem ctk_next (h : Int) (L : List Int) (k : Nat) (hk : k < L.length) : ctk h L (k + 1) = ctk h L k + if h < L.getD k 0 + 64 then 1 else 0 := by
  unfold ctk
  rw [take_next L k hk, List.countP_append, List.countP_singleton]
  simp
theorem ctk_le (h : Int) (L : List Int) (k : Nat) : ctk h L k ≤ k := by
  have := List.countP_le_length (p := fun y => decide (h < y + 64)) (l := L.take k)
  have h2 := List.length_take (i := k) (l := L)
  unfold ctk
  omega

set_option maxRecDepth 100000 in
theorem rcount_any (base r : Nat) (L : List Int) (w : World) (h : RW base r L w) (hl : L.length ≤ 1000) (hp : ∀ y ∈ L, 0 ≤ y ∧ y ≤ 4611686018427387904) :
    Calls Try.prog 15 #[.pointer (some ⟨r, 0, none⟩)] w fun e w' => e = .returned (.int .i64 (ctL L : Nat)) ∧ Below w.heap.size w w' := by
  have hh : ∀ wx m, RW base r L wx → Calls Try.prog 13 #[.pointer (some ⟨r, 0, none⟩)] (wx.drewN m) fun e w' => e = .returned (.int .i64 (hiL L)) ∧ (wx.drewN m) = w' := fun wx m h => rhigh_any base r L _ (h.below ⟨rfl, rfl, rfl, Nat.le_refl _, fun _ _ => rfl⟩) hl
  have htop : hiL L ≤ 4611686018427387904 := hiL_top hp (by omega)
  have hlow := hiL_low L
  have hct : ctk (hiL L) L L.length = ctL L := by unfold ctk ctL; rw [List.take_length]
  obtain ⟨n, hn⟩ : ∃ n, n = L.length := ⟨_, rfl⟩
  obtain ⟨H, hH⟩ : ∃ H, H = hiL L := ⟨_, rfl⟩
  simp only [← hH] at hh
  rw [← hH] at hct htop hlow
  rw [← hn] at hl hct
  have HH := Lib.hid hh
  have hN := Lib.hid hn
  have HP := Lib.hid hp
  have HCT := Lib.hid hct
  clear hn hh hH hp hct
  have hB0 := Below.refl w.heap.size w
  obtain ⟨A0, c0, hB, hO⟩ := h
  have HR := Lib.hid (show RW base r L w from ⟨A0, c0, hB, hO⟩)
  have hcw : w.cell? ⟨r, 0, none⟩ = some (.slice A0 L.length c0) := (hB.cell 0).trans rfl
  rw [← hN.out] at hcw
  clear hB hO
  go_enter Try.func15, Try.ntmps15
  go_wp2
  go_loopw [3, 4] (fun vn vi wr => ∃ k : Nat, k ≤ n ∧ vn = .int .i64 (ctk H L k : Nat) ∧ vi = .int .i64 k ∧ Hid (RW base r L wr) ∧ Below w.heap.size w wr) (fun _ i _ => n - (intOf i).toNat)
  case atStart => exact ⟨0, by omega, rfl, rfl, HR, hB0⟩
  case round =>
    clear hcw HR hB0
    obtain ⟨k, hk, rfl, rfl, HR, hB0⟩ := hrel
    obtain ⟨A, c, hB, hO⟩ := HR.out
    rw [← hN.out] at hB hO
    have hc : wr.cell? ⟨r, 0, none⟩ = some (.slice A n c) := (hB.cell 0).trans rfl
    clear hB
    by_cases hlt : k < n
    · obtain ⟨b, c', hv, _, _, hcell⟩ := own_ints hO (by omega)
      injection hv with e1 e2 e3
      subst e1; subst e3
      have hck := hcell k hlt
      have hst := ctk_next H L k (by rw [← hN.out]; exact hlt)
      have hyb := HP.out (L.getD k 0) (by
        have hkl : k < L.length := by rw [← hN.out]; exact hlt
        rw [List.getD_eq_getElem?_getD, List.getElem?_eq_getElem hkl, Option.getD_some]
        exact List.getElem_mem hkl)
      have hcl := ctk_le H L k
      obtain ⟨y, hy⟩ : ∃ y, y = L.getD k 0 := ⟨_, rfl⟩
      rw [← hy] at hck hst hyb
      obtain ⟨C, hC⟩ : ∃ C, C = ctk H L k := ⟨_, rfl⟩
      rw [← hC] at hst hcl ⊢
      have HHq := Lib.hid (fun m => HH.out wr m HR.out)
      have hki : (k : Int) < (n : Int) := by omega
      have hw : IntKind.i64.wrap (y + 64) = y + 64 := IntWalk.i64_in _ (by omega)
      obtain ⟨y0, y1⟩ := hyb
      have HRn : ∀ m, Hid (RW base r L (wr.drewN m)) := fun m => Lib.hid (HR.out.below ⟨rfl, rfl, rfl, Nat.le_refl _, fun _ _ => rfl⟩)
      have HRN := Lib.hid HRn
      clear hcell hy hC hO HRn
      by_cases hgt : H < y + 64
      · rw [if_pos hgt] at hst
        have HST := Lib.hid hst
        clear hst
        go_wp2
        go_quiet (first
          | (go_at_call 13; exact Calls.quiet_of_same ((Hid.out HHq _).mono fun _ _ ⟨h, h2⟩ => ⟨h, h2.symm⟩)))
        go_wp2
        go_roundw
        case rel => exact ⟨k + 1, by omega, by rw [HST.out]; go_num, by go_num, HRN.out _, below_drewN hB0 _⟩
        case measure => simp [intOf]; omega
      · rw [if_neg hgt] at hst
        have HST := Lib.hid hst
        have hgt' : y + 64 ≤ H := by omega
        clear hst hgt
        go_wp2
        go_quiet (first
          | (go_at_call 13; exact Calls.quiet_of_same ((Hid.out HHq _).mono fun _ _ ⟨h, h2⟩ => ⟨h, h2.symm⟩)))
        go_wp2
        go_roundw
        case rel => exact ⟨k + 1, by omega, by rw [HST.out]; go_num, by go_num, HRN.out _, below_drewN hB0 _⟩
        case measure => simp [intOf]; omega
    · obtain rfl : k = n := by omega
      rw [HCT.out]
      go_wp2
      go_ret
      exact ⟨rfl, hB0⟩
end Go.Proofs.Ytdemelbgdgfliaa
