/- LadderPlays' walk: whatever is done to any ladder, its state and strikes are the document's; a copy made in between stays. -/
import Derived.Test.YtbghpgflfaheiaaLadL2
import Derived.Test.YtbghpgflfaheiaaOpen
import Derived.Deep.CutBlock
import Derived.Deep.DeepCutAuto
namespace Go.Proofs.Ytbghpgflfaheiaa
open Go.RowKit
set_option linter.unusedVariables false

/-- The copy, if there is one: it had so many strikes when it was made, in blocks that are kept. -/
def CpyL (T : World → Value → Ldr → (Nat → Prop) → Prop) (g : Nat) (K : Nat → Prop) (cv : Value) (was : Int) (wx : World) : Prop :=
  cv = .pointer none ∨ ∃ q2 F2 sc, cv = .pointer (some q2) ∧ T wx cv sc F2 ∧ OkR sc ∧ sc.k = was ∧ (∀ k, F2 k → K k) ∧ ¬ F2 g
/-- The program's ladder q plays s, the document's, block g, plays r; the rungs lie in block rb. -/
def StX (T : World → Value → Ldr → (Nat → Prop) → Prop) (w : World) (q : Addr) (rb : Nat) (S H D : Int) (g : Nat) (cv : Value) (was : Int) (s r : Ldr) (wx : World) : Prop :=
  ∃ K, OnK T w K (.pointer (some q)) s wx ∧ RLad wx g r ∧ K g ∧ w.heap.size ≤ g ∧ BlkV wx rb 23 [.int .i64 S, .int .i64 H, .int .i64 D] ∧ K rb ∧ g ≠ rb ∧ CpyL T g K cv was wx
section
variable {T : World → Value → Ldr → (Nat → Prop) → Prop} {w wx wy : World} {q : Addr} {rb g : Nat} {S H D : Int} {cv : Value} {was : Int} {s r s' r' : Ldr} {K : Nat → Prop}
theorem CpyL.sam (hL : Lone T) (h : CpyL T g K cv was wx) (hk : SamK K wx wy) (hz : wx.heap.size ≤ wy.heap.size) : CpyL T g K cv was wy := by
  rcases h with h | ⟨q2, F2, sc, h1, h2, h3, h4, h5, h6⟩
  · exact .inl h
  · exact .inr ⟨q2, F2, sc, h1, hL.stay _ _ _ _ _ h2 hz (fun k hk2 => hk k (h5 k hk2)), h3, h4, h5, h6⟩
theorem StX.below (h : StX T w q rb S H D g cv was s r wx) : Below w.heap.size w wx := by obtain ⟨K, h1, _⟩ := h; exact h1.below
theorem StX.rlad (h : StX T w q rb S H D g cv was s r wx) : RLad wx g r := by obtain ⟨K, _, h2, _⟩ := h; exact h2
theorem StX.rungs (h : StX T w q rb S H D g cv was s r wx) : wx.cell? ⟨rb, 0, none⟩ = some (.int .i64 S) ∧ wx.cell? ⟨rb, 1, none⟩ = some (.int .i64 H) ∧ wx.cell? ⟨rb, 2, none⟩ = some (.int .i64 D) := by
  obtain ⟨K, _, _, _, _, h5, _⟩ := h
  exact ⟨(h5.cell 0).trans rfl, (h5.cell 1).trans rfl, (h5.cell 2).trans rfl⟩
theorem StX.bel (hL : Lone T) (h : StX T w q rb S H D g cv was s r wx) (hb : Below wx.heap.size wx wy) : StX T w q rb S H D g cv was s r wy := by
  obtain ⟨K, h1, h2, h3, h4, h5, h6, h7, h8⟩ := h
  obtain ⟨k1, k2⟩ := h1.on hL hb
  exact ⟨K, k1, BlkV.samK h2 k2 h3, h3, h4, h5.samK k2 h6, h6, h7, h8.sam hL k2 hb.size⟩
/-- The program's takes a step. -/
theorem StX.xstep (hL : Lone T) (h : StX T w q rb S H D g cv was s r wx) (hc : ∀ K, OnK T w K (.pointer (some q)) s wx → OnK T w K (.pointer (some q)) s' wy ∧ SamK K wx wy) (hz : wx.heap.size ≤ wy.heap.size) : StX T w q rb S H D g cv was s' r wy := by
  obtain ⟨K, h1, h2, h3, h4, h5, h6, h7, h8⟩ := h
  obtain ⟨k1, k2⟩ := hc K h1
  exact ⟨K, k1, BlkV.samK h2 k2 h3, h3, h4, h5.samK k2 h6, h6, h7, h8.sam hL k2 hz⟩
/-- The document's takes a step. -/
theorem StX.rstep (hL : Lone T) (h : StX T w q rb S H D g cv was s r wx) (ho : Only g wx wy) (hr : RLad wy g r') : StX T w q rb S H D g cv was s r' wy := by
  obtain ⟨K, h1, h2, h3, h4, h5, h6, h7, h8⟩ := h
  refine ⟨K, h1.poke hL h3 h4 ho, hr, h3, h4, h5.only ho (Ne.symm h7), h6, h7, ?_⟩
  rcases h8 with h | ⟨q2, F2, sc, a1, a2, a3, a4, a5, a6⟩
  · exact .inl h
  · exact .inr ⟨q2, F2, sc, a1, hL.fr a2 (Fr.of_only (F := fun k => k = g) ho rfl) (fun k hk e => a6 (by rw [← e]; exact hk)), a3, a4, a5, a6⟩
/-- The document's is made anew. -/
theorem StX.rnew (hL : Lone T) (h : StX T w q rb S H D g cv was s r wx) {g2 : Nat} (hg : wx.heap.size ≤ g2) (hr : RLad wy g2 r') (hb : Below wx.heap.size wx wy) : StX T w q rb S H D g2 cv was s r' wy := by
  obtain ⟨K, h1, h2, h3, h4, h5, h6, h7, h8⟩ := h
  obtain ⟨_, k2⟩ := h1.on hL hb
  have hz := h1.below.size
  refine ⟨_, h1.span hL hb, hr, .inr ⟨hg, hr.lt⟩, by omega, h5.samK k2 h6, .inl h6, ?_, ?_⟩
  · have := h1.kept rb h6; omega
  · rcases h8 with h | ⟨q2, F2, sc, a1, a2, a3, a4, a5, a6⟩
    · exact .inl h
    · exact .inr ⟨q2, F2, sc, a1, hL.below a2 hb, a3, a4, fun k hk => .inl (a5 k hk), fun hf => by have := hL.low _ _ _ _ a2 _ hf; omega⟩
/-- A copy is made. -/
theorem StX.copied (hL : Lone T) (h : StX T w q rb S H D g cv was s r wx) (ok : OkR s) {q2 : Addr} {F2 : Nat → Prop} (hc : T wy (.pointer (some q2)) s F2 ∧ (∀ k, F2 k → wx.heap.size ≤ k) ∧ Below wx.heap.size wx wy) : StX T w q rb S H D g (.pointer (some q2)) s.k s r wy := by
  obtain ⟨K, h1, h2, h3, h4, h5, h6, h7, h8⟩ := h
  obtain ⟨_, k2⟩ := h1.on hL hc.2.2
  exact ⟨_, h1.span hL hc.2.2, BlkV.samK h2 k2 h3, .inl h3, h4, h5.samK k2 h6, .inl h6, h7, .inr ⟨q2, F2, s, rfl, hc.1, ok, rfl, fun k hk => .inr ⟨hc.2.1 k hk, hL.low _ _ _ _ hc.1 k hk⟩, fun hf => by have h9 := hc.2.1 _ hf; have := h1.kept g h3; omega⟩⟩
theorem StX.get (h : StX T w q rb S H D g cv was s r wx) : ∃ F, T wx (.pointer (some q)) s F := by obtain ⟨K, h1, _⟩ := h; obtain ⟨F, h2, _⟩ := h1.ex; exact ⟨F, h2⟩
theorem StX.strike (hT : Tells21 T) (h : StX T w q rb S H D g cv was s r wx) (ok : OkR s) (n : Int) (hn : -9223372036854775808 ≤ n ∧ n ≤ 9223372036854775807) :
    Calls Try.prog 13 #[.pointer (some q), .int .i64 n] wx fun e w' => e = .returned (.tuple #[]) ∧ Hid (StX T w q rb S H D g cv was (strR s n) r w') := by
  obtain ⟨K, h1, h2, h3, h4, h5, h6, h7, h8⟩ := h
  obtain ⟨F, f1, f2⟩ := h1.ex
  refine (hT.strike wx q s F n f1 ok hn).mono ?_
  rintro e w' ⟨rfl, hk⟩
  obtain ⟨k1, k2⟩ := h1.stp f2 hk.out
  obtain ⟨F', _, hf, _⟩ := hk.out
  exact ⟨rfl, Lib.hid ⟨K, k1, BlkV.samK h2 k2 h3, h3, h4, h5.samK k2 h6, h6, h7, h8.sam hT.lone k2 hf.size⟩⟩
theorem StX.tick (hT : Tells21 T) (h : StX T w q rb S H D g cv was s r wx) (ok : OkR s) :
    Calls Try.prog 16 #[.pointer (some q)] wx fun e w' => e = .returned (.tuple #[]) ∧ Hid (StX T w q rb S H D g cv was (tikR s) r w') := by
  obtain ⟨K, h1, h2, h3, h4, h5, h6, h7, h8⟩ := h
  obtain ⟨F, f1, f2⟩ := h1.ex
  refine (hT.tick wx q s F f1 ok).mono ?_
  rintro e w' ⟨rfl, hk⟩
  obtain ⟨k1, k2⟩ := h1.stp f2 hk.out
  obtain ⟨F', _, hf, _⟩ := hk.out
  exact ⟨rfl, Lib.hid ⟨K, k1, BlkV.samK h2 k2 h3, h3, h4, h5.samK k2 h6, h6, h7, h8.sam hT.lone k2 hf.size⟩⟩
theorem StX.reset (hT : Tells21 T) (h : StX T w q rb S H D g cv was s r wx) (ok : OkR s) :
    Calls Try.prog 15 #[.pointer (some q)] wx fun e w' => e = .returned (.tuple #[]) ∧ Hid (StX T w q rb S H D g cv was (newR s.S s.H s.D) r w') := by
  obtain ⟨K, h1, h2, h3, h4, h5, h6, h7, h8⟩ := h
  obtain ⟨F, f1, f2⟩ := h1.ex
  refine (hT.reset wx q s F f1 ok).mono ?_
  rintro e w' ⟨rfl, hk⟩
  obtain ⟨k1, k2⟩ := h1.stp f2 hk.out
  obtain ⟨F', _, hf, _⟩ := hk.out
  exact ⟨rfl, Lib.hid ⟨K, k1, BlkV.samK h2 k2 h3, h3, h4, h5.samK k2 h6, h6, h7, h8.sam hT.lone k2 hf.size⟩⟩
theorem StX.cpy (hT : Tells21 T) (h : StX T w q rb S H D g cv was s r wx) : cv = .pointer none ∨ ∃ q2, cv = .pointer (some q2) ∧ Hid (Calls Try.prog 12 #[.pointer (some q2)] wx fun e w' => e = .returned (.int .i64 was) ∧ ∃ m, w' = wx.drewN m) := by
  obtain ⟨K, _, _, _, _, _, _, _, h8⟩ := h
  rcases h8 with h | ⟨q2, F2, sc, a1, a2, a3, a4, _, _⟩
  · exact .inl h
  · subst a1; subst a4
    exact .inr ⟨q2, rfl, Lib.hid (hT.strikes wx q2 sc F2 a2 a3)⟩
end
/-- Both play s, whose rungs are these. -/
def PlyL (T : World → Value → Ldr → (Nat → Prop) → Prop) (w : World) (q : Addr) (rb : Nat) (S H D : Int) (g : Nat) (cv : Value) (was : Int) (s : Ldr) (wx : World) : Prop := StX T w q rb S H D g cv was s s wx ∧ OkR s ∧ s.S = S ∧ s.H = H ∧ s.D = D

set_option maxRecDepth 100000 in
set_option maxHeartbeats 1600000 in
theorem ladderPlays_walk {T : World → Value → Ldr → (Nat → Prop) → Prop} (hT : Tells21 T) (S H0 D : Int) (A : Option Addr) (n cap : Nat) (z : Nat → Nat → Value) (cut : Int) (w : World) (hD : D ≤ 9223372036854775807) (hr : RdF [.int .u8, .int .i64] w A n z) (hn : n ≤ 9223372036854775807) (hcut : (Lit.int .u8 cut).wf = true) :
    Calls Try.prog 3 #[.agg #[.int .i64 S, .int .i64 H0, .int .i64 D], .slice A n cap, .int .u8 cut] w fun e w' => e = .returned (.bool true) ∧ Below w.heap.size w w' := by
  have H := Lib.hid hT
  have HAL := Lib.hid (fun wx => alive_any21 hT wx)
  have bc := bounds_u8 hcut
  have hb1 : Below w.heap.size w (w.alloc (.cells #[.int .i64 S, .int .i64 H0, .int .i64 D] 23)) := (Below.refl _ _).alloc (Nat.le_refl _) _
  have hz1 : w.heap.size < (w.alloc (.cells #[.int .i64 S, .int .i64 H0, .int .i64 D] 23)).heap.size := by simp
  have HR1 := Lib.hid (BlkV.new w 23 [.int .i64 S, .int .i64 H0, .int .i64 D])
  have HC : Hid (∀ W, BlkV W w.heap.size 23 [.int .i64 S, .int .i64 H0, .int .i64 D] → W.cell? ⟨w.heap.size, 0, none⟩ = some (.int .i64 S) ∧ W.cell? ⟨w.heap.size, 1, none⟩ = some (.int .i64 H0) ∧ W.cell? ⟨w.heap.size, 2, none⟩ = some (.int .i64 D)) := Lib.hid fun W h => ⟨(h.cell 0).trans rfl, (h.cell 1).trans rfl, (h.cell 2).trans rfl⟩
  obtain ⟨W1, hW1⟩ : ∃ W1, W1 = w.alloc (.cells #[.int .i64 S, .int .i64 H0, .int .i64 D] 23) := ⟨_, rfl⟩
  rw [← hW1] at hb1 hz1 HR1
  have HB1 := Lib.hid (And.intro hb1 hz1)
  have HW1 := Lib.hid hW1
  have HR := Lib.hid hr
  clear hcut hb1 hz1 hW1 hr
  by_cases hm : mayR S H0 D
  · have HN := Lib.hid (fun wx => hT.new_ok S H0 D wx hm hD)
    have HM := Lib.hid (fun wx => rmay_yes21 S H0 D wx hm)
    have O1 := Lib.hid (newR_ok hm hD)
    have HRN := Lib.hid (fun wx => rnew_any21 S H0 D wx)
    clear hT hm
    go_enter Try.func3, Try.ntmps3
    go_wp2_with (first
      | (go_at_call 7; (rw [← HW1.out]; (with_reducible refine (Hid.out HAL _).mono ?_); rintro e w2 ⟨rfl, hb2⟩; have HB2 := Lib.hid (HB1.out.1.trans (hb2.mono (Nat.le_of_lt HB1.out.2))); have HR2 := Lib.hid (HR1.out.below hb2 HR1.out.lt); obtain ⟨r0, r1, r2⟩ := HC.out w2 HR2.out; clear hb2))
      | (go_at_call 8; ((with_reducible refine (Hid.out HN _).mono ?_); rintro e w3 ⟨q, F, rfl, HK⟩; have HO := Lib.hid (OnK.newK (K := fun k => k = w.heap.size) HB2.out (fun k hk => by rw [hk]; exact HR2.out.lt) HK.out); have HR3 := Lib.hid (HR2.out.samK HO.out.2 rfl); obtain ⟨q0, q1, q2⟩ := HC.out w3 HR3.out))
      | (go_at_call 9; ((with_reducible refine (Hid.out HM _).mono ?_); rintro e w4 ⟨rfl, hb4⟩; have HO4 := Lib.hid (HO.out.1.on H.out.lone hb4); have HR4 := Lib.hid (HR3.out.samK HO4.out.2 rfl); obtain ⟨p0, p1, p2⟩ := HC.out w4 HR4.out; clear hb4))
      | (go_at_call 10; ((with_reducible refine (Hid.out HRN _).mono ?_); rintro e w5 ⟨g, rfl, HK5⟩; have HO5 := Lib.hid (HO4.out.1.on H.out.lone HK5.out.2.2); have HR5 := Lib.hid (HR4.out.samK HO5.out.2 rfl); have HS5 := Lib.hid (HO4.out.1.span H.out.lone HK5.out.2.2))))
    have HST : Hid (PlyL T w q w.heap.size S H0 D g (.pointer none) 0 (newR S H0 D) w5) := Lib.hid ⟨⟨_, HS5.out, HK5.out.2.1, .inr ⟨HK5.out.1, HK5.out.2.1.lt⟩, by have := HO4.out.1.below.size; have := HK5.out.1; omega, HR5.out, .inl rfl, by have := HR4.out.lt; have := HK5.out.1; omega, .inl rfl⟩, O1.out, rfl, rfl, rfl⟩
    obtain ⟨rb, hrb⟩ : ∃ rb, rb = w.heap.size := ⟨_, rfl⟩
    rw [← hrb] at HST
    try rw [← hrb]
    clear hrb HS5 HR5 HO5 HR4 HO4 HR3 HO HR2 HB2 HC HR1 HW1 HAL HN HM r0 r1 r2 q0 q1 q2 p0 p1 p2 HK HK5
    obtain ⟨x, hx⟩ : ∃ x, cut % 100 = x := ⟨_, rfl⟩
    have hx0 : 0 ≤ x ∧ x ≤ 99 := by omega
    go_loopw [8, 9, 10, 11] (fun vw vc va vi wr => ∃ (k g : Nat) (cv : Value) (was : Int) (s : Ldr), k ≤ n ∧ k ≤ 150 ∧ vw = .pointer (some ⟨g, 0, none⟩) ∧ vc = cv ∧ va = .int .i64 was ∧ vi = .int .i64 k ∧ Hid (PlyL T w q rb S H0 D g cv was s wr)) (fun _ _ _ i _ => n - (intOf i).toNat)
    case atStart => exact ⟨0, g, _, 0, _, by omega, by omega, rfl, rfl, rfl, rfl, HST⟩
    case round =>
      clear HST O1
      obtain ⟨k, g, cv, was, s, hk, hk150, rfl, rfl, rfl, rfl, HS⟩ := hrel
      by_cases hlt : k < n
      · by_cases hk15 : k < 150
        · have hki : (k : Int) < (n : Int) := by omega
          have hk15i : (k : Int) < 150 := by omega
          obtain ⟨b, off, rfl, hcs⟩ := HR.out.at_ (by omega)
          obtain ⟨kd, hkd, wkd⟩ := HR.out.2.1 k hlt 0 _ rfl
          obtain ⟨N, hN, wN⟩ := HR.out.2.1 k hlt 1 _ rfl
          have bkd := bounds_u8 wkd
          have bN := bounds_i64 wN
          have HCell : Hid (∀ wx, Below w.heap.size w wx → wx.cell? ⟨b, off + k * 2, none⟩ = some (.int .u8 kd) ∧ wx.cell? ⟨b, off + k * 2 + 1, none⟩ = some (.int .i64 N)) := Lib.hid fun wx hb => ⟨by rw [← hkd]; exact hcs wx hb k hlt 0 (by decide), by rw [← hN]; exact hcs wx hb k hlt 1 (by decide)⟩
          clear hcs hkd hN wkd wN
          -- a copy may be made
          go_upto_if 39 with (fail)
          go_cut [9, 10] (fun vc va wx => ∃ cv was, vc = cv ∧ va = .int .i64 was ∧ Hid (PlyL T w q rb S H0 D g cv was s wx))
          case first =>
            by_cases hkx : (k : Int) = x
            · have hkb : ((k : Int) == x) = true := by simpa using hkx
              have CP := Lib.hid (H.out.copy wr q s (Classical.choose HS.out.1.get) (Classical.choose_spec HS.out.1.get) HS.out.2.1)
              clear hkx
              go_wp2_with (first
                | (go_at_call 11; ((with_reducible refine (Hid.out CP).mono ?_); rintro e w2 ⟨q2, F2, rfl, HK2⟩; have HS2 := Lib.hid (HS.out.1.copied H.out.lone HS.out.2.1 HK2.out); have SK := Lib.hid (H.out.strikes w2 q s (Classical.choose HS2.out.get) (Classical.choose_spec HS2.out.get) HS.out.2.1)))
                | (go_at_call 12; ((with_reducible refine (Hid.out SK).mono ?_); rintro e w3 ⟨rfl, m3, hm3⟩; have HS3 := Lib.hid (HS2.out.bel H.out.lone (hm3 ▸ drewN_bel w2 m3)); clear hm3)))
              go_meet
              exact ⟨_, _, rfl, rfl, Lib.hid ⟨HS3.out, HS.out.2⟩⟩
            · have hkb : ((k : Int) == x) = false := by simpa using hkx
              clear hkx
              go_wp2
              go_meet
              exact ⟨_, _, rfl, rfl, HS⟩
          case rest =>
            clear HS
            obtain ⟨cv, was, hcv, rfl, HS⟩ := hcut
            have hcv' := hcv.symm
            clear hcv
            subst hcv'
            obtain ⟨hc0, hc1⟩ := HCell.out wc HS.out.1.below
            obtain ⟨t, ht⟩ : ∃ t : Nat, kd % 4 = t := ⟨(kd % 4).toNat, by omega⟩
            have ht4 : t < 4 := by omega
            go_upto_block 2 with (fail)
            try rw [ht]
            clear ht
            go_cut [8, 54, 70] (fun vw _ _ wx => ∃ g s, vw = .pointer (some ⟨g, 0, none⟩) ∧ Hid (PlyL T w q rb S H0 D g cv was s wx))
            case first =>
              by_cases ht2 : t = 2
              · subst ht2
                have P1 := Lib.hid (HS.out.1.strike H.out HS.out.2.1 N bN)
                go_wp2_with (first
                  | (go_at_call 13; ((with_reducible refine (Hid.out P1).mono ?_); rintro e w2 ⟨rfl, HK2⟩; obtain ⟨d0, d1⟩ := HCell.out w2 HK2.out.below; have P2 := Lib.hid (rstrike_any21 g s N w2 HK2.out.rlad HS.out.2.1 bN)))
                  | (go_at_call 14; ((with_reducible refine (Hid.out P2).mono ?_); rintro e w3 ⟨rfl, hr3, ho3⟩; have HS3 := Lib.hid (HK2.out.rstep H.out.lone ho3 hr3); clear hr3 ho3)))
                go_meet
                exact ⟨g, _, rfl, Lib.hid ⟨HS3.out, strR_ok HS.out.2.1 N, by rw [(strR_rungs s N).1]; exact HS.out.2.2.1, by rw [(strR_rungs s N).2.1]; exact HS.out.2.2.2.1, by rw [(strR_rungs s N).2.2]; exact HS.out.2.2.2.2⟩⟩
              · have htb2 : ((t : Int) == 2) = false := by simp; omega
                by_cases ht3 : t = 3
                · subst ht3
                  have P1 := HS.out.1.reset H.out HS.out.2.1
                  rw [HS.out.2.2.1, HS.out.2.2.2.1, HS.out.2.2.2.2] at P1
                  have P1' := Lib.hid P1
                  clear P1 ht2
                  go_wp2_with (first
                    | (go_at_call 15; ((with_reducible refine (Hid.out P1').mono ?_); rintro e w2 ⟨rfl, HK2⟩; obtain ⟨r0, r1, r2⟩ := HK2.out.rungs))
                    | (go_at_call 10; ((with_reducible refine (Hid.out HRN _).mono ?_); rintro e w3 ⟨g3, rfl, HK3⟩; have HS3 := Lib.hid (HK2.out.rnew H.out.lone HK3.out.1 HK3.out.2.1 HK3.out.2.2))))
                  go_meet
                  exact ⟨g3, newR S H0 D, rfl, Lib.hid ⟨HS3.out, by have h9 := HS.out.2.1; have hm := h9.may; have hd := h9.D; rw [HS.out.2.2.1, HS.out.2.2.2.1, HS.out.2.2.2.2] at hm; rw [HS.out.2.2.2.2] at hd; exact newR_ok hm hd, rfl, rfl, rfl⟩⟩
                · have htb3 : ((t : Int) == 3) = false := by simp; omega
                  have P1 := Lib.hid (HS.out.1.tick H.out HS.out.2.1)
                  clear ht2 ht3
                  go_wp2_with (first
                    | (go_at_call 16; ((with_reducible refine (Hid.out P1).mono ?_); rintro e w2 ⟨rfl, HK2⟩; have P2 := Lib.hid (rtick_any21 g s w2 HK2.out.rlad HS.out.2.1)))
                    | (go_at_call 17; ((with_reducible refine (Hid.out P2).mono ?_); rintro e w3 ⟨rfl, hr3, ho3⟩; have HS3 := Lib.hid (HK2.out.rstep H.out.lone ho3 hr3); clear hr3 ho3)))
                  go_meet
                  exact ⟨g, _, rfl, Lib.hid ⟨HS3.out, tikR_ok HS.out.2.1, by rw [(tikR_rungs s).1]; exact HS.out.2.2.1, by rw [(tikR_rungs s).2.1]; exact HS.out.2.2.2.1, by rw [(tikR_rungs s).2.2]; exact HS.out.2.2.2.2⟩⟩
            case rest =>
              clear HS hc0 hc1
              obtain ⟨g, s, rfl, HS⟩ := hcut
              have HQ : Hid (∀ m, StX T w q rb S H0 D g cv was s s (wc.drewN m)) := Lib.hid fun m => HS.out.1.bel H.out.lone (drewN_bel wc m)
              have HS1 : Hid (∀ m, Calls Try.prog 18 #[.pointer (some q)] (wc.drewN m) fun e w' => e = .returned (.int .i64 (staR s)) ∧ ∃ m2, w' = (wc.drewN m).drewN m2) := Lib.hid fun m => by obtain ⟨F, hF⟩ := (HQ.out m).get; exact H.out.state _ q s F hF HS.out.2.1
              have HS2 : Hid (∀ m, Calls Try.prog 12 #[.pointer (some q)] (wc.drewN m) fun e w' => e = .returned (.int .i64 s.k) ∧ ∃ m2, w' = (wc.drewN m).drewN m2) := Lib.hid fun m => by obtain ⟨F, hF⟩ := (HQ.out m).get; exact H.out.strikes _ q s F hF HS.out.2.1
              have HS3 : Hid (∀ m, Calls Try.prog 19 #[.pointer (some ⟨g, 0, none⟩)] (wc.drewN m) fun e w' => e = .returned (.int .i64 (staR s)) ∧ ∃ m2, w' = (wc.drewN m).drewN m2) := Lib.hid fun m => rstate_any21 g s _ (HQ.out m).rlad
              have hck := HS.out.1.rlad.c3
              obtain ⟨y, hy⟩ : ∃ y, y = staR s := ⟨_, rfl⟩
              obtain ⟨v, hv⟩ : ∃ v, v = s.k := ⟨_, rfl⟩
              rw [← hy] at HS1 HS3
              rw [← hv] at HS2 hck
              clear hy hv
              go_wp2
              go_quiet ((first
                | (go_at_call 18; exact Calls.quiet_of (HS1.out _))
                | (go_at_call 19; exact Calls.quiet_of (HS3.out _))
                | (go_at_call 12; exact Calls.quiet_of (HS2.out _))))
              have HEND : Hid (PlyL T w q rb S H0 D g cv was s (wc.drewN nq)) := Lib.hid ⟨HQ.out nq, HS.out.2⟩
              obtain ⟨w9, hw9⟩ : ∃ w9, w9 = wc.drewN nq := ⟨_, rfl⟩
              rw [← hw9] at HEND ⊢
              clear hw9 HS1 HS2 HS3 HQ hck HS
              go_wp2
              go_roundw
              case rel => exact ⟨k + 1, g, _, was, s, by omega, by omega, rfl, rfl, rfl, by go_num, HEND⟩
              case measure => simp [intOf]; omega
        · obtain rfl : k = 150 := by omega
          have hki : (150 : Int) < (n : Int) := by omega
          have hend := HS.out.1.below
          rcases HS.out.1.cpy H.out with hcv | ⟨q2, hcv, HSK⟩
          · subst hcv
            have HE := Lib.hid hend
            clear hend
            go_wp2
            go_ret
            exact ⟨rfl, HE.out⟩
          · subst hcv
            have HE := Lib.hid hend
            clear hend
            go_wp2_with (go_at_call 12; ((with_reducible refine (Hid.out HSK).mono ?_); rintro e w2 ⟨rfl, m2, rfl⟩))
            go_ret
            exact ⟨rfl, HE.out.trans ((drewN_bel _ m2).mono HE.out.size)⟩
      · obtain rfl : k = n := by omega
        have hend := HS.out.1.below
        rcases HS.out.1.cpy H.out with hcv | ⟨q2, hcv, HSK⟩
        · subst hcv
          have HE := Lib.hid hend
          clear hend
          go_wp2
          go_ret
          exact ⟨rfl, HE.out⟩
        · subst hcv
          have HE := Lib.hid hend
          clear hend
          go_wp2_with (go_at_call 12; ((with_reducible refine (Hid.out HSK).mono ?_); rintro e w2 ⟨rfl, m2, rfl⟩))
          go_ret
          exact ⟨rfl, HE.out.trans ((drewN_bel _ m2).mono HE.out.size)⟩
  · have HN := Lib.hid (fun wx => hT.new_no S H0 D wx hm)
    have HM := Lib.hid (fun wx => rmay_no21 S H0 D wx hm)
    clear hT hm
    go_enter Try.func3, Try.ntmps3
    go_wp2_with (first
      | (go_at_call 7; (rw [← HW1.out]; (with_reducible refine (Hid.out HAL _).mono ?_); rintro e w2 ⟨rfl, hb2⟩; have HB2 := Lib.hid (HB1.out.1.trans (hb2.mono (Nat.le_of_lt HB1.out.2))); have HR2 := Lib.hid (HR1.out.below hb2 HR1.out.lt); obtain ⟨r0, r1, r2⟩ := HC.out w2 HR2.out; clear hb2))
      | (go_at_call 8; ((with_reducible refine (Hid.out HN _).mono ?_); rintro e w3 ⟨rfl, HK⟩; have HB3 := Lib.hid (HB2.out.trans (HK.out.mono HB2.out.size)); obtain ⟨q0, q1, q2⟩ := HC.out w3 (HR2.out.below HK.out HR2.out.lt)))
      | (go_at_call 9; ((with_reducible refine (Hid.out HM _).mono ?_); rintro e w4 ⟨rfl, hb4⟩)))
    go_ret
    exact ⟨rfl, HB3.out.trans (hb4.mono HB3.out.size)⟩
end Go.Proofs.Ytbghpgflfaheiaa
