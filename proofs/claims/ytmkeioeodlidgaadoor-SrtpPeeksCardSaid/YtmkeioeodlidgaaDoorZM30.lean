/- Several texts in one: The statements' common beginning of layer 15 (tenaillelaw15.alive): the chapter's example comes true. SrtpPeeks's walk: what is seen of any bytes is the document's. No statement is proved here. -/
import Derived.Test.YtmkeioeodlidgaaDoorZM28
import Derived.Test.YtmkeioeodlidgaaDoorZM29
import Derived.Test.YtmkeioeodlidgaaDoorZM19
namespace Go.Proofs.YtmkeioeodlidgaaDoor
open Go.RowKit
set_option linter.unusedVariables false

theorem zero30Y (w : World) : (zeroValue 37).run Tryd.prog w = .ok (.agg (cells (mst z16Y z14Y)).toArray) w := by kernel_rfl
def csY (q : Nat) : List Value := rtpC false 96 7 0 5 (.slice none 0 0) false 0 (.slice none 0 0) (.slice (some ⟨q, 0, none⟩) 5 5) 0
theorem csY_one (q : Nat) : ∀ v ∈ csY q, v.oneCell' = true := by
  intro u hu
  simp only [csY, rtpC, List.mem_cons, List.not_mem_nil, or_false] at hu
  rcases hu with rfl | rfl | rfl | rfl | rfl | rfl | rfl | rfl | rfl | rfl | rfl <;> rfl
theorem csY_blk {q k : Nat} (h : PkB (csY q) k) : q ≤ k := by
  obtain ⟨A, n, c, hm, h0, ad, hA, rfl⟩ := h
  simp only [csY, rtpC, List.mem_cons, List.not_mem_nil, or_false, Value.slice.injEq, reduceCtorEq, false_or] at hm
  rcases hm with ⟨_, e, _⟩ | ⟨_, e, _⟩ | ⟨e, _⟩
  · omega
  · omega
  · rw [hA] at e
    injection e with e
    rw [e]
    exact Nat.le_refl _
theorem csY_fit (q : Nat) : 0 + (csY q).length ≤ zeroC.length := by rw [show (csY q).length = 11 from rfl]; decide
theorem pkY_rd {w : World} {q : Nat} (h : RdS w (some ⟨q, 0, none⟩) 5 5 [104, 101, 108, 108, 111]) : PkRd w (csY q) pkY :=
  ⟨none, 0, none, 0, some ⟨q, 0, none⟩, 5, rfl, ⟨rfl, by decide, fun h => absurd h (by decide)⟩, RdS.nil w, h⟩
/-- The example's objects: two ways, the packet, what is sealed of it twice, the packet that is opened. -/
def RA (D1 D2 : List UInt8) : Nat → World → Value → Wy → (Nat → Prop) → Prop
  | 0 => RP
  | 1 => RP
  | 2 => RBox pkY
  | 3 => RRow D1
  | 4 => RRow D2
  | _ + 5 => RBox pkY
theorem ra_lone (D1 D2 : List UInt8) : ∀ i, Lone (RA D1 D2 i)
  | 0 => rp_lone
  | 1 => rp_lone
  | 2 => rbox_lone _
  | 3 => rrow_lone _
  | 4 => rrow_lone _
  | _ + 5 => rbox_lone _
theorem rbox_open {pk : Pkt} {w : World} {g : Nat} {y : Wy} {F : Nat → Prop} (h : RBox pk w (.pointer (some ⟨g, 0, none⟩)) y F) : ∃ cs, BlkV w g 40 cs ∧ PkRd w cs pk := by
  obtain ⟨g', cs, hp, hB, hpk, _⟩ := h
  injection hp with hp
  injection hp with hp
  injection hp with hp _ _
  subst hp
  exact ⟨cs, hB, hpk⟩
theorem rrow_open {bs : List UInt8} {w : World} {A : Option Addr} {n c : Nat} {y : Wy} {F : Nat → Prop} (h : RRow bs w (.slice A n c) y F) : RdS w A n c bs ∧ F = fun k => 0 < n ∧ ∃ ad, A = some ad ∧ ad.block = k := by
  obtain ⟨A', n', c', hp, hr, hF⟩ := h
  injection hp with h1 h2 h3
  subst h1 h2 h3
  exact ⟨hr, hF⟩
theorem conv_rdA {w : World} {A : Option Addr} {n c : Nat} {bs : List UInt8} (h : RdS w A n c bs) : (convert 22 9 (.slice A n c)).run Tryd.prog w = .ok (.string (txt bs)) w :=
  run_conv h 22 9 5 Tryd.underlying22 Tryd.underlying5 Tryd.underlying9
set_option maxRecDepth 100000 in
set_option maxHeartbeats 1000000 in
theorem alive15_any (w : World) (ht : TabH w) (hw : 0 < w.heap.size) : Calls Tryd.prog 4 #[] w fun e w' => e = .returned (.bool true) ∧ Below w.heap.size w w' := by
  have hz := zero30Y
  have hz2 := zero28
  have HNW := Lib.hid (fun W => new15_any z16Y z14Y 9 W rfl rfl)
  have HTB := Lib.hid ht
  obtain ⟨D1, hD1⟩ : ∃ x, x = outSeal yY pkY 65543 := ⟨_, rfl⟩
  obtain ⟨D2, hD2⟩ : ∃ x, x = outSeal yY.once pkY 7 := ⟨_, rfl⟩
  have HL := Lib.hid (ra_lone D1 D2)
  have HR1 : Hid (∀ W p F cs, RP W p yY F → TabH W → PkRd W cs pkY → Calls Tryd.prog 8 #[p, .agg cs.toArray, .int .i64 65543] W (SealT RP p F 0 D1 yY.once W)) := Lib.hid (fun W p F cs k1 k2 k3 => (seal15_any p yY F cs pkY 65543 W k1 k2 yY_good k3 pkY_fits (by decide) (by decide) (by decide) (by decide)).mono (fun e w' k => k.told exY_seal1.1 hD1.symm exY_seal1.2.2))
  have HR2 : Hid (∀ W p F cs, RP W p yY.once F → TabH W → PkRd W cs pkY → Calls Tryd.prog 8 #[p, .agg cs.toArray, .int .i64 7] W (SealT RP p F 0 D2 yY.once.once W)) := Lib.hid (fun W p F cs k1 k2 k3 => (seal15_any p yY.once F cs pkY 7 W k1 k2 (good_once yY_good (by decide)) k3 pkY_fits (by decide) (by decide) (by decide) (by decide)).mono (fun e w' k => k.told exY_seal2.1 hD2.symm exY_seal2.2.2))
  have HO1 : Hid (∀ W p F A n c, RP W p yY F → TabH W → RdS W A n c D2 → (0 < n → ∀ ad, A = some ad → ¬ F ad.block ∧ ad.block < W.heap.size) → Calls Tryd.prog 9 #[p, .slice A n c] W (OpenT RP p F 0 7 pkY { yY with used := 1, ws := [(5, [7])] } W)) := Lib.hid (fun W p F A n c k1 k2 k3 k4 => (open15_any p yY F A n c D2 W k1 k2 yY_good (by decide) k3 k4).mono (fun e w' k => by rw [hD2] at k; exact k.told exY_open1.1 exY_open1.2.1 exY_open1.2.2.1 exY_open1.2.2.2))
  have hg2 : Wy.good { yY with used := 1, ws := [(5, [7])] } := by
    have := good_open yY_good (outSeal yY.once pkY 7) (by decide)
    rwa [exY_open1.2.2.2] at this
  have HO2 : Hid (∀ W p F A n c, RP W p { yY with used := 1, ws := [(5, [7])] } F → TabH W → RdS W A n c D2 → (0 < n → ∀ ad, A = some ad → ¬ F ad.block ∧ ad.block < W.heap.size) → Calls Tryd.prog 9 #[p, .slice A n c] W (fun e w' => ∃ i pk y', OpenT RP p F 5 i pk y' W e w')) := Lib.hid (fun W p F A n c k1 k2 k3 k4 => (open15_any p _ F A n c D2 W k1 k2 hg2 (by decide) k3 k4).mono (fun e w' k => ⟨_, _, _, by rw [hD2] at k; exact k.told exY_open2 rfl rfl rfl⟩))
  have hne : ((txt D1).toList == (txt D2).toList) = false := by
    rw [txt_toList, txt_toList, hD1, hD2]
    exact beq_eq_false_iff_ne.2 exY_differ
  have HNE := Lib.hid hne
  have HTW : Hid (∀ W, Below w.heap.size w W → TabH W) := Lib.hid (fun W hb => tab_below ht hb)
  clear ht hD1 hD2 hg2 hne hz2
  go_enter Tryd.func4, Tryd.ntmps4
  go_upto_region 2 with (first
    | (go_at_call 7; ((with_reducible refine (HNW.out w).mono ?_); rintro e w1 ⟨pa, Fa, rfl, ha, la, hb1⟩; obtain ⟨ga, ba, hpa, hwa, hfa⟩ := rp_ptr ha; subst hpa; clear hwa hfa; have HA1 := Lib.hid ((Ways.zero (RA D1 D2) w (fun _ => undef) (fun _ => yY) (fun _ _ => False)).more HL.out hb1 ha la); clear ha la hb1))
    | (go_at_call 7; ((with_reducible refine (HNW.out w1).mono ?_); rintro e w2 ⟨pb, Fb, rfl, ha, la, hb1⟩; obtain ⟨gb, bb, hpb, hwb, hfb⟩ := rp_ptr ha; subst hpb; clear hwb hfb; have HA2 := Lib.hid (HA1.out.more HL.out hb1 ha la); clear ha la hb1)))
  clear HNW HA1
  have hcv : (convert 22 22 (.slice (some ⟨w2.heap.size, 0, none⟩) 5 5)).run Tryd.prog (w2.alloc (.cells #[.int .u8 104, .int .u8 101, .int .u8 108, .int .u8 108, .int .u8 111] 5)) = .ok (.slice (some ⟨w2.heap.size, 0, none⟩) 5 5) (w2.alloc (.cells #[.int .u8 104, .int .u8 101, .int .u8 108, .int .u8 108, .int .u8 111] 5 (5, 6))) := const_at w2 w2.heap.size rfl #[.int .u8 104, .int .u8 101, .int .u8 108, .int .u8 108, .int .u8 111] 5 5
  go_upto_region 5 with (fail)
  have hrl := rd_lit w2 5 [104, 101, 108, 108, 111] #[.int .u8 104, .int .u8 101, .int .u8 108, .int .u8 108, .int .u8 111] (5, 6) 5 rfl rfl (by decide)
  have hB3 : BlkV ((w2.alloc (.cells #[.int .u8 104, .int .u8 101, .int .u8 108, .int .u8 108, .int .u8 111] 5 (5, 6))).alloc (.cells #[.bool false, .int .u8 96, .int .u16 7, .int .u32 0, .int .u32 5, .slice none 0 0, .bool false, .int .u16 0, .slice none 0 0, .slice (some ⟨w2.heap.size, 0, none⟩) 5 5, .int .u8 0] 40)) (w2.heap.size + 1) 40 (csY w2.heap.size) := BlkV.new_at _ _ _ _ _ (size_alloc _ _).symm rfl
  have hP3 := pkY_rd (hrl.below ((Below.refl _ _).alloc (Nat.le_refl _) (.cells #[.bool false, .int .u8 96, .int .u16 7, .int .u32 0, .int .u32 5, .slice none 0 0, .bool false, .int .u16 0, .slice none 0 0, .slice (some ⟨w2.heap.size, 0, none⟩) 5 5, .int .u8 0] 40)))
  obtain ⟨w3, hw3⟩ : ∃ x, x = ((w2.alloc (.cells #[.int .u8 104, .int .u8 101, .int .u8 108, .int .u8 108, .int .u8 111] 5 (5, 6))).alloc (.cells #[.bool false, .int .u8 96, .int .u16 7, .int .u32 0, .int .u32 5, .slice none 0 0, .bool false, .int .u16 0, .slice none 0 0, .slice (some ⟨w2.heap.size, 0, none⟩) 5 5, .int .u8 0] 40)) := ⟨_, rfl⟩
  rw [← hw3] at hB3 hP3 ⊢
  have hb3 : Below w2.heap.size w2 w3 := hw3 ▸ twoBelow w2 _ _
  obtain ⟨q, hq⟩ : ∃ q, q = w2.heap.size + 1 := ⟨_, rfl⟩
  rw [← hq] at hB3 ⊢
  have HA3 := Lib.hid (HA2.out.more HL.out hb3 (q := .pointer (some ⟨q, 0, none⟩)) (yq := yY) (G := fun k => k = q ∨ PkB (csY w2.heap.size) k) (show RBox pkY w3 (.pointer (some ⟨q, 0, none⟩)) yY (fun k => k = q ∨ PkB (csY w2.heap.size) k) from ⟨q, _, rfl, hB3, hP3, rfl⟩) (fun k hk => by
    rcases hk with rfl | ⟨A, n, c, hm, h0, ad, hA, rfl⟩
    · omega
    · exact csY_blk ⟨A, n, c, hm, h0, ad, hA, rfl⟩))
  clear hw3 hq hrl hcv hB3 hP3 hb3 HA2
  have hz2 := zero28
  obtain ⟨p3, y3, F3, hA3⟩ : ∃ p y F, Ways (RA D1 D2) 3 w p y F w3 ∧ p 0 = .pointer (some ⟨ga, 0, none⟩) ∧ p 1 = .pointer (some ⟨gb, 0, none⟩) ∧ p 2 = .pointer (some ⟨q, 0, none⟩) ∧ y 0 = yY ∧ y 1 = yY := ⟨_, _, _, HA3.out, rfl, rfl, rfl, rfl, rfl⟩
  clear HA3
  obtain ⟨cs3, hB3, hP3⟩ := rbox_open (show RBox pkY w3 (.pointer (some ⟨q, 0, none⟩)) (y3 2) (F3 2) from hA3.2.2.2.1 ▸ hA3.1.ob 2 (by omega))
  have HC1 := Lib.hid (HR1.out w3 (.pointer (some ⟨ga, 0, none⟩)) (F3 0) cs3 (by have := hA3.1.ob 0 (by omega); rw [hA3.2.1, hA3.2.2.2.2.1] at this; exact this) (HTW.out _ hA3.1.below) hP3)
  have RG3 := Lib.hid (hB3.range 0 cs3 (fun i _ => by rw [Nat.zero_add]))
  have RT3 : Hid (RowTy Tryd.prog 40 cs3.length) := Lib.hid (row11 hP3.len)
  have HA3 := Lib.hid hA3
  clear hB3 hP3 hA3
  go_upto_region 6 with (first
    | (with_reducible refine wpList_ld rfl 40 (.tmp 3) rfl q 0 rfl cs3 RG3.out RT3.out ?_)
    | (go_at_call 8; ((with_reducible refine (HC1.out).mono ?_); rintro e w4 ⟨A4, n4, c4, F4, rfl, ho4, hn4, hr4, hf4, hF4⟩; have HT4 := Lib.hid (And.intro ho4 (And.intro hn4 (And.intro hr4 (And.intro hf4 hF4)))); clear ho4 hn4 hr4 hf4 hF4)))
  obtain ⟨G4, hG4⟩ := HA3.out.1.sealed HL.out (i := 0) (by omega) HT4.out.1 HT4.out.2.1 (by rw [HA3.out.2.1]; exact HT4.out.2.2.1) HT4.out.2.2.2.1 HT4.out.2.2.2.2 yY rfl
  obtain ⟨p4, y4, F4', hA4⟩ : ∃ p y F, Ways (RA D1 D2) 4 w p y F w4 ∧ p 0 = .pointer (some ⟨ga, 0, none⟩) ∧ p 1 = .pointer (some ⟨gb, 0, none⟩) ∧ p 2 = .pointer (some ⟨q, 0, none⟩) ∧ p 3 = .slice A4 n4 c4 ∧ y 0 = yY.once ∧ y 1 = yY := ⟨_, _, _, hG4, HA3.out.2.1, HA3.out.2.2.1, HA3.out.2.2.2.1, rfl, rfl, HA3.out.2.2.2.2.2⟩
  clear HC1 RG3 RT3 HA3 hG4 HT4
  obtain ⟨cs4, hB4, hP4⟩ := rbox_open (show RBox pkY w4 (.pointer (some ⟨q, 0, none⟩)) (y4 2) (F4' 2) from hA4.2.2.2.1 ▸ hA4.1.ob 2 (by omega))
  have HC2 := Lib.hid (HR2.out w4 (.pointer (some ⟨ga, 0, none⟩)) (F4' 0) cs4 (by have := hA4.1.ob 0 (by omega); rw [hA4.2.1, hA4.2.2.2.2.2.1] at this; exact this) (HTW.out _ hA4.1.below) hP4)
  have RG4 := Lib.hid (hB4.range 0 cs4 (fun i _ => by rw [Nat.zero_add]))
  have RT4 : Hid (RowTy Tryd.prog 40 cs4.length) := Lib.hid (row11 hP4.len)
  have HA4 := Lib.hid hA4
  clear hB4 hP4 hA4
  go_upto_region 7 with (first
    | (with_reducible refine wpList_ld rfl 40 (.tmp 3) rfl q 0 rfl cs4 RG4.out RT4.out ?_)
    | (go_at_call 8; ((with_reducible refine (HC2.out).mono ?_); rintro e w5 ⟨A5, n5, c5, F5, rfl, ho5, hn5, hr5, hf5, hF5⟩; have HT5 := Lib.hid (And.intro ho5 (And.intro hn5 (And.intro hr5 (And.intro hf5 hF5)))); clear ho5 hn5 hr5 hf5 hF5)))
  obtain ⟨G5, hG5⟩ := HA4.out.1.sealed HL.out (i := 0) (by omega) HT5.out.1 HT5.out.2.1 (by rw [HA4.out.2.1]; exact HT5.out.2.2.1) HT5.out.2.2.2.1 HT5.out.2.2.2.2 yY rfl
  obtain ⟨p5, y5, F5', hA5⟩ : ∃ p y F, Ways (RA D1 D2) 5 w p y F w5 ∧ p 1 = .pointer (some ⟨gb, 0, none⟩) ∧ p 2 = .pointer (some ⟨q, 0, none⟩) ∧ p 3 = .slice A4 n4 c4 ∧ p 4 = .slice A5 n5 c5 ∧ y 1 = yY := ⟨_, _, _, hG5, HA4.out.2.2.1, HA4.out.2.2.2.1, HA4.out.2.2.2.2.1, rfl, HA4.out.2.2.2.2.2.2⟩
  clear HC2 RG4 RT4 HA4 hG5 HT5 HR1 HR2
  obtain ⟨hr5, hF5⟩ := rrow_open (show RRow D2 w5 (.slice A5 n5 c5) (y5 4) (F5' 4) from hA5.2.2.2.2.1 ▸ hA5.1.ob 4 (by omega))
  have HC3 := Lib.hid (HO1.out w5 (.pointer (some ⟨gb, 0, none⟩)) (F5' 1) A5 n5 c5 (by have := hA5.1.ob 1 (by omega); rw [hA5.2.1, hA5.2.2.2.2.2] at this; exact this) (HTW.out _ hA5.1.below) hr5 (fun h0 ad hA => ⟨fun hk => hA5.1.dis 4 1 (by omega) (by omega) (by decide) ad.block (by rw [hF5]; exact ⟨h0, ad, hA, rfl⟩) hk, (HL.out 4).low _ _ _ _ (hA5.1.ob 4 (by omega)) _ (by rw [hF5]; exact ⟨h0, ad, hA, rfl⟩)⟩))
  have HA5 := Lib.hid hA5
  clear hr5 hF5 hA5
  go_upto_region 8 with (first
    | (go_at_call 9; ((with_reducible refine (HC3.out).mono ?_); rintro e w6 ⟨cs6, F6, rfl, hp6, hn6, hr6, hf6, hF6⟩; have HT6 := Lib.hid (And.intro hp6 (And.intro hn6 (And.intro hr6 (And.intro hf6 hF6)))); have hI6 := BlkV.new_at w6 w6.heap.size 40 zeroC _ rfl rfl; have HL6 := Lib.hid hp6.len; have HO6 := Lib.hid hp6.one; clear hp6 hn6 hr6 hf6 hF6))
    | ((with_reducible refine wpList_st rfl 40 (.tmp 8) (.tmp 43) rfl w6.heap.size 0 cs6 rfl rfl 40 zeroC hI6 (by rw [HL6.out]; decide) (row11 HL6.out) HO6.out ?_); intro w7 hB7 ho7; rw [splice_all _ _ (by rw [HL6.out]; rfl)] at hB7; have HB7 := Lib.hid hB7; have Hb7 : Hid (Below w6.heap.size w6 w7) := Lib.hid (((Below.refl _ _).alloc (Nat.le_refl _) _).trans (ho7.below (Nat.le_refl _))); clear hB7 ho7))
  obtain ⟨G7, hG7⟩ := HA5.out.1.opened HL.out (i := 1) (by omega) HT6.out.1 HT6.out.2.1 (by rw [HA5.out.2.1]; exact HT6.out.2.2.1) HT6.out.2.2.2.1 HT6.out.2.2.2.2 yY rfl Hb7.out HB7.out
  obtain ⟨b7, hb7⟩ : ∃ b, b = w6.heap.size := ⟨_, rfl⟩
  rw [← hb7] at hG7 ⊢
  obtain ⟨p7, y7, F7, hA7⟩ : ∃ p y F, Ways (RA D1 D2) 6 w p y F w7 ∧ p 1 = .pointer (some ⟨gb, 0, none⟩) ∧ p 2 = .pointer (some ⟨q, 0, none⟩) ∧ p 3 = .slice A4 n4 c4 ∧ p 4 = .slice A5 n5 c5 ∧ p 5 = .pointer (some ⟨b7, 0, none⟩) ∧ y 1 = { yY with used := 1, ws := [(5, [7])] } := ⟨_, _, _, hG7, HA5.out.2.1, HA5.out.2.2.1, HA5.out.2.2.2.1, HA5.out.2.2.2.2.1, rfl, rfl⟩
  clear HC3 HA5 hG7 HT6 hI6 HL6 HO6 HB7 Hb7 hb7 HO1
  obtain ⟨hr7, hF7⟩ := rrow_open (show RRow D2 w7 (.slice A5 n5 c5) (y7 4) (F7 4) from hA7.2.2.2.2.1 ▸ hA7.1.ob 4 (by omega))
  have HC4 := Lib.hid (HO2.out w7 (.pointer (some ⟨gb, 0, none⟩)) (F7 1) A5 n5 c5 (by have := hA7.1.ob 1 (by omega); rw [hA7.2.1, hA7.2.2.2.2.2.2] at this; exact this) (HTW.out _ hA7.1.below) hr7 (fun h0 ad hA => ⟨fun hk => hA7.1.dis 4 1 (by omega) (by omega) (by decide) ad.block (by rw [hF7]; exact ⟨h0, ad, hA, rfl⟩) hk, (HL.out 4).low _ _ _ _ (hA7.1.ob 4 (by omega)) _ (by rw [hF7]; exact ⟨h0, ad, hA, rfl⟩)⟩))
  have HA7 := Lib.hid hA7
  clear hr7 hF7 hA7
  go_upto_region 9 with (first
    | (go_at_call 9; ((with_reducible refine (HC4.out).mono ?_); rintro e w8 ⟨i8, pk8, yy8, cs8, F8, rfl, hp8, hn8, hr8, hf8, hF8⟩; have HT8 := Lib.hid (And.intro hp8 (And.intro hn8 (And.intro hr8 (And.intro hf8 hF8)))); have hI8 := BlkV.new_at w8 w8.heap.size 40 zeroC _ rfl rfl; have HL8 := Lib.hid hp8.len; have HO8 := Lib.hid hp8.one; clear hp8 hn8 hr8 hf8 hF8))
    | ((with_reducible refine wpList_st rfl 40 (.tmp 11) (.tmp 50) rfl w8.heap.size 0 cs8 rfl rfl 40 zeroC hI8 (by rw [HL8.out]; decide) (row11 HL8.out) HO8.out ?_); intro w9 hB9 ho9; have Hb9 : Hid (Below w8.heap.size w8 w9) := Lib.hid (((Below.refl _ _).alloc (Nat.le_refl _) _).trans (ho9.below (Nat.le_refl _))); clear hB9 ho9))
  have hA9 := (HA7.out.1.turn HL.out (i := 1) (by omega) HT8.out.2.2.2.1 (by rw [HA7.out.2.1]; exact HT8.out.2.2.1) HT8.out.2.2.2.2).on HL.out Hb9.out
  obtain ⟨p9, y9, F9, hB9⟩ : ∃ p y F, Ways (RA D1 D2) 6 w p y F w9 ∧ p 2 = .pointer (some ⟨q, 0, none⟩) ∧ p 3 = .slice A4 n4 c4 ∧ p 4 = .slice A5 n5 c5 ∧ p 5 = .pointer (some ⟨b7, 0, none⟩) := ⟨_, _, _, hA9, HA7.out.2.2.1, HA7.out.2.2.2.1, HA7.out.2.2.2.2.1, HA7.out.2.2.2.2.2.1⟩
  clear HC4 HA7 hA9 HT8 hI8 HL8 HO8 Hb9 HO2
  obtain ⟨cs9, hC9, hP9⟩ := rbox_open (show RBox pkY w9 (.pointer (some ⟨q, 0, none⟩)) (y9 2) (F9 2) from hB9.2.1 ▸ hB9.1.ob 2 (by omega))
  obtain ⟨ds9, hD9, hQ9⟩ := rbox_open (show RBox pkY w9 (.pointer (some ⟨b7, 0, none⟩)) (y9 5) (F9 5) from hB9.2.2.2.2 ▸ hB9.1.ob 5 (by omega))
  have hv1 := conv_rdA (rrow_open (show RRow D1 w9 (.slice A4 n4 c4) (y9 3) (F9 3) from hB9.2.2.1 ▸ hB9.1.ob 3 (by omega))).1
  have hv2 := conv_rdA (rrow_open (show RRow D2 w9 (.slice A5 n5 c5) (y9 4) (F9 4) from hB9.2.2.2.1 ▸ hB9.1.ob 4 (by omega))).1
  have HSM := Lib.hid (same10_any cs9 ds9 pkY w9 hP9 hQ9)
  have RG9 := Lib.hid (hC9.range 0 cs9 (fun i _ => by rw [Nat.zero_add]))
  have RT9 : Hid (RowTy Tryd.prog 40 cs9.length) := Lib.hid (row11 hP9.len)
  have SG9 := Lib.hid (hD9.range 0 ds9 (fun i _ => by rw [Nat.zero_add]))
  have ST9 : Hid (RowTy Tryd.prog 40 ds9.length) := Lib.hid (row11 hQ9.len)
  have HB9 := Lib.hid hB9.1.below
  have hne := HNE.out
  clear hB9 hC9 hP9 hD9 hQ9
  go_wp2_with (first
    | (with_reducible refine wpList_ldg (by with_unfolding_all rfl) 40 (.tmp 3) rfl q 0 rfl cs9 RG9.out RT9.out ?_)
    | (with_reducible refine wpList_ldg (by with_unfolding_all rfl) 40 (.tmp 8) rfl b7 0 rfl ds9 SG9.out ST9.out ?_)
    | (go_at_call 10; ((with_reducible refine (HSM.out).mono ?_); rintro e w10 ⟨rfl, hb10⟩; have HB10 := Lib.hid (HB9.out.trans (hb10.mono HB9.out.size)); clear hb10)))
  go_ret
  exact ⟨rfl, HB10.out⟩
end Go.Proofs.YtmkeioeodlidgaaDoor

namespace Go.Proofs.YtmkeioeodlidgaaDoor
open Go.RowKit
set_option linter.unusedVariables false

set_option maxRecDepth 100000 in
set_option maxHeartbeats 1000000 in
theorem srtpPeeks_walk (A : Option Addr) (n c : Nat) (bs : List UInt8) (w : World) (ht : TabH w) (hw : 0 < w.heap.size) (hr : RdS w A n c bs) :
    Calls Tryd.prog 3 #[.slice A n c] w fun e w' => e = .returned (.bool true) ∧ Below w.heap.size w w' := by
  have HAL := Lib.hid (alive15_any w ht hw)
  have hs := hr.small
  have HR := Lib.hid (fun W (hb : Below w.heap.size w W) => hr.below hb)
  by_cases h1 : (3000 : Int) < (n : Int)
  · clear hr ht
    go_enter Tryd.func3, Tryd.ntmps3
    go_wp2_with (go_at_call 4; ((with_reducible refine (Hid.out HAL).mono ?_); rintro e w1 ⟨rfl, hb1⟩; have HB1 := Lib.hid hb1; clear hb1))
    go_ret
    exact ⟨rfl, HB1.out⟩
  obtain ⟨x, y, z, hxyz⟩ : ∃ x y z : Int, ∀ W e w', P15 bs W e w' → e = .returned (.tuple #[.int .u32 x, .int .u16 y, .int .i64 z]) ∧ Below W.heap.size W w' := by
    by_cases h0 : whyPeek bs = 0
    · exact ⟨_, _, _, fun W e w' k => ⟨k.1 h0, k.2.2⟩⟩
    · exact ⟨_, _, _, fun W e w' k => ⟨k.2.1 h0, k.2.2⟩⟩
  have HP1 := Lib.hid (fun W (hb : Below w.heap.size w W) => (peek15_any A n c bs W (hr.below hb)).mono (fun e w' k => hxyz W e w' k))
  have HP2 := Lib.hid (fun W (hb : Below w.heap.size w W) => (rpeek15_any A n c bs W (hr.below hb)).mono (fun e w' k => hxyz W e w' k))
  clear hr ht hxyz
  go_enter Tryd.func3, Tryd.ntmps3
  go_wp2_with (first
    | (go_at_call 4; ((with_reducible refine (Hid.out HAL).mono ?_); rintro e w1 ⟨rfl, hb1⟩; have HB1 := Lib.hid hb1; clear hb1))
    | (go_at_call 5; ((with_reducible refine (HP1.out w1 HB1.out).mono ?_); rintro e w2 ⟨rfl, hb2⟩; have HB2 := Lib.hid (HB1.out.trans (hb2.mono HB1.out.size)); clear hb2))
    | (go_at_call 6; ((with_reducible refine (HP2.out w2 HB2.out).mono ?_); rintro e w3 ⟨rfl, hb3⟩; have HB3 := Lib.hid (HB2.out.trans (hb3.mono HB2.out.size)); clear hb3)))
  go_ret
  exact ⟨rfl, HB3.out⟩
end Go.Proofs.YtmkeioeodlidgaaDoor
