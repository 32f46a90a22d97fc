/- Several texts in one: plain words and walks. No statement is proved here. -/
import Derived.Test.YtmkeioeodlidgaaGreatDoorZM30
import Derived.Test.YtmkeioeodlidgaaGreatDoorZM31
import Derived.Test.YtmkeioeodlidgaaGreatDoorZM16
import Derived.Test.YtmkeioeodlidgaaGreatDoorZM14
import Derived.Test.YtmkeioeodlidgaaGreatDoorZM1
import Derived.ChangeSame
import Derived.Deep.Fields
import Derived.OpenShut
import Derived.Lib.SmallJoins
import Derived.Test.YtmkeioeodlidgaaGreatDoorZBytes
namespace Go.Proofs.YtmkeioeodlidgaaGreatDoor
open Go.RowKit
set_option linter.unusedVariables false

theorem zero30Y (w : World) : (zeroValue 25).run Tryz.prog w = .ok (.agg (cells (mst z16Y z14Y)).toArray) w := by kernel_rfl
def csY (q : Nat) : List Value := rtpC false 96 7 0 5 (.slice none 0 0) false 0 (.slice none 0 0) (.slice (some ⟨q, 0, none⟩) 5 5) 0
theorem csY_blk {q k : Nat} (h : PkB (csY q) k) : q ≤ k := by
 obtain ⟨A, n, c, hm, h0, ad, hA, rfl⟩ := h
 simp only [csY, rtpC, List.mem_cons, List.not_mem_nil, or_false, Value.slice.injEq, reduceCtorEq, false_or] at hm
 rcases hm with ⟨_, e, _⟩ | ⟨_, e, _⟩ | ⟨e, _⟩
 · omega
 · omega
 · rw [hA] at e
   injection e with e
   rw [e]
   exact Nat.le_refl _
theorem pkY_rd {w : World} {q : Nat} (h : RdS w (some ⟨q, 0, none⟩) 5 5 [104, 101, 108, 108, 111]) : PkRd w (csY q) pkY :=
 ⟨none, 0, none, 0, some ⟨q, 0, none⟩, 5, rfl, ⟨rfl, by decide, fun h => absurd h (by decide)⟩, RdS.nil w, h⟩
def RA (D1 D2 : List UInt8) : Nat → World → Value → Wy → (Nat → Prop) → Prop
 | 0 => RP
 | 1 => RP
 | 2 => RBox pkY
 | 3 => RRow D1
 | 4 => RRow D2
 | _ + 5 => RBox pkY
theorem ra_lone (D1 D2 : List UInt8) : ∀ i, Lone (RA D1 D2 i)
 | 0 => rp_lone
 | 1 => rp_lone
 | 2 => rbox_lone _
 | 3 => rrow_lone _
 | 4 => rrow_lone _
 | _ + 5 => rbox_lone _
theorem rbox_open {pk : Pkt} {w : World} {g : Nat} {y : Wy} {F : Nat → Prop} (h : RBox pk w (.pointer (some ⟨g, 0, none⟩)) y F) : ∃ cs, BlkV w g 37 cs ∧ PkRd w cs pk := by
 obtain ⟨g', cs, hp, hB, hpk, _⟩ := h
 injection hp with hp
 injection hp with hp
 injection hp with hp _ _
 subst hp
 exact ⟨cs, hB, hpk⟩
theorem rrow_open {bs : List UInt8} {w : World} {A : Option Addr} {n c : Nat} {y : Wy} {F : Nat → Prop} (h : RRow bs w (.slice A n c) y F) : RdS w A n c bs ∧ F = fun k => 0 < n ∧ ∃ ad, A = some ad ∧ ad.block = k := by
 obtain ⟨A', n', c', hp, hr, hF⟩ := h
 injection hp with h1 h2 h3
 subst h1 h2 h3
 exact ⟨hr, hF⟩
theorem conv_rdA {w : World} {A : Option Addr} {n c : Nat} {bs : List UInt8} (h : RdS w A n c bs) : (convert 35 9 (.slice A n c)).run Tryz.prog w = .ok (.string (txt bs)) w :=
 run_conv h 35 9 5 Tryz.underlying35 Tryz.underlying5 Tryz.underlying9
set_option maxRecDepth 100000 in
set_option maxHeartbeats 1000000 in
theorem alive15_any (w : World) (ht : TabH w) (hw : 0 < w.heap.size) : Calls Tryz.prog 5 #[] w fun e w' => e = .returned (.bool true) ∧ Below w.heap.size w w' := by
 have hz := zero30Y
 have hz2 := zero28
 have HNW := Lib.hid (fun W => new15_any z16Y z14Y 9 W rfl rfl)
 have HTB := Lib.hid ht
 obtain ⟨D1, hD1⟩ : ∃ x, x = outSeal yY pkY 65543 := ⟨_, rfl⟩
 obtain ⟨D2, hD2⟩ : ∃ x, x = outSeal yY.once pkY 7 := ⟨_, rfl⟩
 have HL := Lib.hid (ra_lone D1 D2)
 have HR1 : Hid (∀ W p F cs, RP W p yY F → TabH W → PkRd W cs pkY → Calls Tryz.prog 9 #[p, .agg cs.toArray, .int .i64 65543] W (SealT RP p F 0 D1 yY.once W)) := Lib.hid (fun W p F cs k1 k2 k3 => (seal15_any p yY F cs pkY 65543 W k1 k2 yY_good k3 pkY_fits (by decide) (by decide) (by decide) (by decide)).mono (fun e w' k => k.told exY_seal1.1 hD1.symm exY_seal1.2.2))
 have HR2 : Hid (∀ W p F cs, RP W p yY.once F → TabH W → PkRd W cs pkY → Calls Tryz.prog 9 #[p, .agg cs.toArray, .int .i64 7] W (SealT RP p F 0 D2 yY.once.once W)) := Lib.hid (fun W p F cs k1 k2 k3 => (seal15_any p yY.once F cs pkY 7 W k1 k2 (good_once yY_good (by decide)) k3 pkY_fits (by decide) (by decide) (by decide) (by decide)).mono (fun e w' k => k.told exY_seal2.1 hD2.symm exY_seal2.2.2))
 have HO1 : Hid (∀ W p F A n c, RP W p yY F → TabH W → RdS W A n c D2 → (0 < n → ∀ ad, A = some ad → ¬ F ad.block ∧ ad.block < W.heap.size) → Calls Tryz.prog 12 #[p, .slice A n c] W (OpenT RP p F 0 7 pkY { yY with used := 1, ws := [(5, [7])] } W)) := Lib.hid (fun W p F A n c k1 k2 k3 k4 => (open15_any p yY F A n c D2 W k1 k2 yY_good (by decide) k3 k4).mono (fun e w' k => by rw [hD2] at k; exact k.told exY_open1.1 exY_open1.2.1 exY_open1.2.2.1 exY_open1.2.2.2))
 have hg2 : Wy.good { yY with used := 1, ws := [(5, [7])] } := by
  have := good_open yY_good (outSeal yY.once pkY 7) (by decide)
  rwa [exY_open1.2.2.2] at this
 have HO2 : Hid (∀ W p F A n c, RP W p { yY with used := 1, ws := [(5, [7])] } F → TabH W → RdS W A n c D2 → (0 < n → ∀ ad, A = some ad → ¬ F ad.block ∧ ad.block < W.heap.size) → Calls Tryz.prog 12 #[p, .slice A n c] W (fun e w' => ∃ i pk y', OpenT RP p F 5 i pk y' W e w')) := Lib.hid (fun W p F A n c k1 k2 k3 k4 => (open15_any p _ F A n c D2 W k1 k2 hg2 (by decide) k3 k4).mono (fun e w' k => ⟨_, _, _, by rw [hD2] at k; exact k.told exY_open2 rfl rfl rfl⟩))
 have hne : ((txt D1).toList == (txt D2).toList) = false := by
  rw [txt_toList, txt_toList, hD1, hD2]
  exact beq_eq_false_iff_ne.2 exY_differ
 have HNE := Lib.hid hne
 have HTW : Hid (∀ W, Below w.heap.size w W → TabH W) := Lib.hid (fun W hb => tab_below ht hb)
 clear ht hD1 hD2 hg2 hne hz2
 go_enter Tryz.func5, Tryz.ntmps5
 go_upto_region 2 with (first
  | (go_at_call 6; ((with_reducible refine (HNW.out w).mono ?_); rintro e w1 ⟨pa, Fa, rfl, ha, la, hb1⟩; obtain ⟨ga, ba, hpa, hwa, hfa⟩ := rp_ptr ha; subst hpa; clear hwa hfa; have HA1 := Lib.hid ((Ways.zero (RA D1 D2) w (fun _ => undef) (fun _ => yY) (fun _ _ => False)).more HL.out hb1 ha la); clear ha la hb1))
  | (go_at_call 6; ((with_reducible refine (HNW.out w1).mono ?_); rintro e w2 ⟨pb, Fb, rfl, ha, la, hb1⟩; obtain ⟨gb, bb, hpb, hwb, hfb⟩ := rp_ptr ha; subst hpb; clear hwb hfb; have HA2 := Lib.hid (HA1.out.more HL.out hb1 ha la); clear ha la hb1)))
 clear HNW HA1
 have hcv : (convert 35 35 (.slice (some ⟨w2.heap.size, 0, none⟩) 5 5)).run Tryz.prog (w2.alloc (.cells #[.int .u8 104, .int .u8 101, .int .u8 108, .int .u8 108, .int .u8 111] 5)) = .ok (.slice (some ⟨w2.heap.size, 0, none⟩) 5 5) (w2.alloc (.cells #[.int .u8 104, .int .u8 101, .int .u8 108, .int .u8 108, .int .u8 111] 5 (5, 6))) := const_at w2 w2.heap.size rfl #[.int .u8 104, .int .u8 101, .int .u8 108, .int .u8 108, .int .u8 111] 5 5
 go_upto_region 5 with (fail)
 have hrl := rd_lit w2 5 [104, 101, 108, 108, 111] #[.int .u8 104, .int .u8 101, .int .u8 108, .int .u8 108, .int .u8 111] (5, 6) 5 rfl rfl (by decide)
 have hB3 : BlkV ((w2.alloc (.cells #[.int .u8 104, .int .u8 101, .int .u8 108, .int .u8 108, .int .u8 111] 5 (5, 6))).alloc (.cells #[.bool false, .int .u8 96, .int .u16 7, .int .u32 0, .int .u32 5, .slice none 0 0, .bool false, .int .u16 0, .slice none 0 0, .slice (some ⟨w2.heap.size, 0, none⟩) 5 5, .int .u8 0] 37)) (w2.heap.size + 1) 37 (csY w2.heap.size) := BlkV.new_at _ _ _ _ _ (size_alloc _ _).symm rfl
 have hP3 := pkY_rd (hrl.below ((Below.refl _ _).alloc (Nat.le_refl _) (.cells #[.bool false, .int .u8 96, .int .u16 7, .int .u32 0, .int .u32 5, .slice none 0 0, .bool false, .int .u16 0, .slice none 0 0, .slice (some ⟨w2.heap.size, 0, none⟩) 5 5, .int .u8 0] 37)))
 obtain ⟨w3, hw3⟩ : ∃ x, x = ((w2.alloc (.cells #[.int .u8 104, .int .u8 101, .int .u8 108, .int .u8 108, .int .u8 111] 5 (5, 6))).alloc (.cells #[.bool false, .int .u8 96, .int .u16 7, .int .u32 0, .int .u32 5, .slice none 0 0, .bool false, .int .u16 0, .slice none 0 0, .slice (some ⟨w2.heap.size, 0, none⟩) 5 5, .int .u8 0] 37)) := ⟨_, rfl⟩
 rw [← hw3] at hB3 hP3 ⊢
 have hb3 : Below w2.heap.size w2 w3 := hw3 ▸ twoBelow w2 _ _
 obtain ⟨q, hq⟩ : ∃ q, q = w2.heap.size + 1 := ⟨_, rfl⟩
 rw [← hq] at hB3 ⊢
 have HA3 := Lib.hid (HA2.out.more HL.out hb3 (q := .pointer (some ⟨q, 0, none⟩)) (yq := yY) (G := fun k => k = q ∨ PkB (csY w2.heap.size) k) (show RBox pkY w3 (.pointer (some ⟨q, 0, none⟩)) yY (fun k => k = q ∨ PkB (csY w2.heap.size) k) from ⟨q, _, rfl, hB3, hP3, rfl⟩) (fun k hk => by
  rcases hk with rfl | ⟨A, n, c, hm, h0, ad, hA, rfl⟩
  · omega
  · exact csY_blk ⟨A, n, c, hm, h0, ad, hA, rfl⟩))
 clear hw3 hq hrl hcv hB3 hP3 hb3 HA2
 have hz2 := zero28
 obtain ⟨p3, y3, F3, hA3⟩ : ∃ p y F, Ways (RA D1 D2) 3 w p y F w3 ∧ p 0 = .pointer (some ⟨ga, 0, none⟩) ∧ p 1 = .pointer (some ⟨gb, 0, none⟩) ∧ p 2 = .pointer (some ⟨q, 0, none⟩) ∧ y 0 = yY ∧ y 1 = yY := ⟨_, _, _, HA3.out, rfl, rfl, rfl, rfl, rfl⟩
 clear HA3
 obtain ⟨cs3, hB3, hP3⟩ := rbox_open (show RBox pkY w3 (.pointer (some ⟨q, 0, none⟩)) (y3 2) (F3 2) from hA3.2.2.2.1 ▸ hA3.1.ob 2 (by omega))
 have HC1 := Lib.hid (HR1.out w3 (.pointer (some ⟨ga, 0, none⟩)) (F3 0) cs3 (by have := hA3.1.ob 0 (by omega); rw [hA3.2.1, hA3.2.2.2.2.1] at this; exact this) (HTW.out _ hA3.1.below) hP3)
 have RG3 := Lib.hid (hB3.range 0 cs3 (fun i _ => by rw [Nat.zero_add]))
 have RT3 : Hid (RowTy Tryz.prog 37 cs3.length) := Lib.hid (row11 hP3.len)
 have HA3 := Lib.hid hA3
 clear hB3 hP3 hA3
 go_upto_region 6 with (first
  | (with_reducible refine wpList_ld rfl 37 (.tmp 3) rfl q 0 rfl cs3 RG3.out RT3.out ?_)
  | (go_at_call 9; ((with_reducible refine (HC1.out).mono ?_); rintro e w4 ⟨A4, n4, c4, F4, rfl, ho4, hn4, hr4, hf4, hF4⟩; have HT4 := Lib.hid (And.intro ho4 (And.intro hn4 (And.intro hr4 (And.intro hf4 hF4)))); clear ho4 hn4 hr4 hf4 hF4)))
 obtain ⟨G4, hG4⟩ := HA3.out.1.sealed HL.out (i := 0) (by omega) HT4.out.1 HT4.out.2.1 (by rw [HA3.out.2.1]; exact HT4.out.2.2.1) HT4.out.2.2.2.1 HT4.out.2.2.2.2 yY rfl
 obtain ⟨p4, y4, F4', hA4⟩ : ∃ p y F, Ways (RA D1 D2) 4 w p y F w4 ∧ p 0 = .pointer (some ⟨ga, 0, none⟩) ∧ p 1 = .pointer (some ⟨gb, 0, none⟩) ∧ p 2 = .pointer (some ⟨q, 0, none⟩) ∧ p 3 = .slice A4 n4 c4 ∧ y 0 = yY.once ∧ y 1 = yY := ⟨_, _, _, hG4, HA3.out.2.1, HA3.out.2.2.1, HA3.out.2.2.2.1, rfl, rfl, HA3.out.2.2.2.2.2⟩
 clear HC1 RG3 RT3 HA3 hG4 HT4
 obtain ⟨cs4, hB4, hP4⟩ := rbox_open (show RBox pkY w4 (.pointer (some ⟨q, 0, none⟩)) (y4 2) (F4' 2) from hA4.2.2.2.1 ▸ hA4.1.ob 2 (by omega))
 have HC2 := Lib.hid (HR2.out w4 (.pointer (some ⟨ga, 0, none⟩)) (F4' 0) cs4 (by have := hA4.1.ob 0 (by omega); rw [hA4.2.1, hA4.2.2.2.2.2.1] at this; exact this) (HTW.out _ hA4.1.below) hP4)
 have RG4 := Lib.hid (hB4.range 0 cs4 (fun i _ => by rw [Nat.zero_add]))
 have RT4 : Hid (RowTy Tryz.prog 37 cs4.length) := Lib.hid (row11 hP4.len)
 have HA4 := Lib.hid hA4
 clear hB4 hP4 hA4
 go_upto_region 7 with (first
  | (with_reducible refine wpList_ld rfl 37 (.tmp 3) rfl q 0 rfl cs4 RG4.out RT4.out ?_)
  | (go_at_call 9; ((with_reducible refine (HC2.out).mono ?_); rintro e w5 ⟨A5, n5, c5, F5, rfl, ho5, hn5, hr5, hf5, hF5⟩; have HT5 := Lib.hid (And.intro ho5 (And.intro hn5 (And.intro hr5 (And.intro hf5 hF5)))); clear ho5 hn5 hr5 hf5 hF5)))
 obtain ⟨G5, hG5⟩ := HA4.out.1.sealed HL.out (i := 0) (by omega) HT5.out.1 HT5.out.2.1 (by rw [HA4.out.2.1]; exact HT5.out.2.2.1) HT5.out.2.2.2.1 HT5.out.2.2.2.2 yY rfl
 obtain ⟨p5, y5, F5', hA5⟩ : ∃ p y F, Ways (RA D1 D2) 5 w p y F w5 ∧ p 1 = .pointer (some ⟨gb, 0, none⟩) ∧ p 2 = .pointer (some ⟨q, 0, none⟩) ∧ p 3 = .slice A4 n4 c4 ∧ p 4 = .slice A5 n5 c5 ∧ y 1 = yY := ⟨_, _, _, hG5, HA4.out.2.2.1, HA4.out.2.2.2.1, HA4.out.2.2.2.2.1, rfl, HA4.out.2.2.2.2.2.2⟩
 clear HC2 RG4 RT4 HA4 hG5 HT5 HR1 HR2
 obtain ⟨hr5, hF5⟩ := rrow_open (show RRow D2 w5 (.slice A5 n5 c5) (y5 4) (F5' 4) from hA5.2.2.2.2.1 ▸ hA5.1.ob 4 (by omega))
 have HC3 := Lib.hid (HO1.out w5 (.pointer (some ⟨gb, 0, none⟩)) (F5' 1) A5 n5 c5 (by have := hA5.1.ob 1 (by omega); rw [hA5.2.1, hA5.2.2.2.2.2] at this; exact this) (HTW.out _ hA5.1.below) hr5 (fun h0 ad hA => ⟨fun hk => hA5.1.dis 4 1 (by omega) (by omega) (by decide) ad.block (by rw [hF5]; exact ⟨h0, ad, hA, rfl⟩) hk, (HL.out 4).low _ _ _ _ (hA5.1.ob 4 (by omega)) _ (by rw [hF5]; exact ⟨h0, ad, hA, rfl⟩)⟩))
 have HA5 := Lib.hid hA5
 clear hr5 hF5 hA5
 go_upto_region 8 with (first
  | (go_at_call 12; ((with_reducible refine (HC3.out).mono ?_); rintro e w6 ⟨cs6, F6, rfl, hp6, hn6, hr6, hf6, hF6⟩; have HT6 := Lib.hid (And.intro hp6 (And.intro hn6 (And.intro hr6 (And.intro hf6 hF6)))); have hI6 := BlkV.new_at w6 w6.heap.size 37 zeroC _ rfl rfl; have HL6 := Lib.hid hp6.len; have HO6 := Lib.hid hp6.one; clear hp6 hn6 hr6 hf6 hF6))
  | ((with_reducible refine wpList_st rfl 37 (.tmp 8) (.tmp 43) rfl w6.heap.size 0 cs6 rfl rfl 37 zeroC hI6 (by rw [HL6.out]; decide) (row11 HL6.out) HO6.out ?_); intro w7 hB7 ho7; rw [splice_all _ _ (by rw [HL6.out]; rfl)] at hB7; have HB7 := Lib.hid hB7; have Hb7 : Hid (Below w6.heap.size w6 w7) := Lib.hid (((Below.refl _ _).alloc (Nat.le_refl _) _).trans (ho7.below (Nat.le_refl _))); clear hB7 ho7))
 obtain ⟨G7, hG7⟩ := HA5.out.1.opened HL.out (i := 1) (by omega) HT6.out.1 HT6.out.2.1 (by rw [HA5.out.2.1]; exact HT6.out.2.2.1) HT6.out.2.2.2.1 HT6.out.2.2.2.2 yY rfl Hb7.out HB7.out
 obtain ⟨b7, hb7⟩ : ∃ b, b = w6.heap.size := ⟨_, rfl⟩
 rw [← hb7] at hG7 ⊢
 obtain ⟨p7, y7, F7, hA7⟩ : ∃ p y F, Ways (RA D1 D2) 6 w p y F w7 ∧ p 1 = .pointer (some ⟨gb, 0, none⟩) ∧ p 2 = .pointer (some ⟨q, 0, none⟩) ∧ p 3 = .slice A4 n4 c4 ∧ p 4 = .slice A5 n5 c5 ∧ p 5 = .pointer (some ⟨b7, 0, none⟩) ∧ y 1 = { yY with used := 1, ws := [(5, [7])] } := ⟨_, _, _, hG7, HA5.out.2.1, HA5.out.2.2.1, HA5.out.2.2.2.1, HA5.out.2.2.2.2.1, rfl, rfl⟩
 clear HC3 HA5 hG7 HT6 hI6 HL6 HO6 HB7 Hb7 hb7 HO1
 obtain ⟨hr7, hF7⟩ := rrow_open (show RRow D2 w7 (.slice A5 n5 c5) (y7 4) (F7 4) from hA7.2.2.2.2.1 ▸ hA7.1.ob 4 (by omega))
 have HC4 := Lib.hid (HO2.out w7 (.pointer (some ⟨gb, 0, none⟩)) (F7 1) A5 n5 c5 (by have := hA7.1.ob 1 (by omega); rw [hA7.2.1, hA7.2.2.2.2.2.2] at this; exact this) (HTW.out _ hA7.1.below) hr7 (fun h0 ad hA => ⟨fun hk => hA7.1.dis 4 1 (by omega) (by omega) (by decide) ad.block (by rw [hF7]; exact ⟨h0, ad, hA, rfl⟩) hk, (HL.out 4).low _ _ _ _ (hA7.1.ob 4 (by omega)) _ (by rw [hF7]; exact ⟨h0, ad, hA, rfl⟩)⟩))
 have HA7 := Lib.hid hA7
 clear hr7 hF7 hA7
 go_upto_region 9 with (first
  | (go_at_call 12; ((with_reducible refine (HC4.out).mono ?_); rintro e w8 ⟨i8, pk8, yy8, cs8, F8, rfl, hp8, hn8, hr8, hf8, hF8⟩; have HT8 := Lib.hid (And.intro hp8 (And.intro hn8 (And.intro hr8 (And.intro hf8 hF8)))); have hI8 := BlkV.new_at w8 w8.heap.size 37 zeroC _ rfl rfl; have HL8 := Lib.hid hp8.len; have HO8 := Lib.hid hp8.one; clear hp8 hn8 hr8 hf8 hF8))
  | ((with_reducible refine wpList_st rfl 37 (.tmp 11) (.tmp 50) rfl w8.heap.size 0 cs8 rfl rfl 37 zeroC hI8 (by rw [HL8.out]; decide) (row11 HL8.out) HO8.out ?_); intro w9 hB9 ho9; have Hb9 : Hid (Below w8.heap.size w8 w9) := Lib.hid (((Below.refl _ _).alloc (Nat.le_refl _) _).trans (ho9.below (Nat.le_refl _))); clear hB9 ho9))
 have hA9 := (HA7.out.1.turn HL.out (i := 1) (by omega) HT8.out.2.2.2.1 (by rw [HA7.out.2.1]; exact HT8.out.2.2.1) HT8.out.2.2.2.2).on HL.out Hb9.out
 obtain ⟨p9, y9, F9, hB9⟩ : ∃ p y F, Ways (RA D1 D2) 6 w p y F w9 ∧ p 2 = .pointer (some ⟨q, 0, none⟩) ∧ p 3 = .slice A4 n4 c4 ∧ p 4 = .slice A5 n5 c5 ∧ p 5 = .pointer (some ⟨b7, 0, none⟩) := ⟨_, _, _, hA9, HA7.out.2.2.1, HA7.out.2.2.2.1, HA7.out.2.2.2.2.1, HA7.out.2.2.2.2.2.1⟩
 clear HC4 HA7 hA9 HT8 hI8 HL8 HO8 Hb9 HO2
 obtain ⟨cs9, hC9, hP9⟩ := rbox_open (show RBox pkY w9 (.pointer (some ⟨q, 0, none⟩)) (y9 2) (F9 2) from hB9.2.1 ▸ hB9.1.ob 2 (by omega))
 obtain ⟨ds9, hD9, hQ9⟩ := rbox_open (show RBox pkY w9 (.pointer (some ⟨b7, 0, none⟩)) (y9 5) (F9 5) from hB9.2.2.2.2 ▸ hB9.1.ob 5 (by omega))
 have hv1 := conv_rdA (rrow_open (show RRow D1 w9 (.slice A4 n4 c4) (y9 3) (F9 3) from hB9.2.2.1 ▸ hB9.1.ob 3 (by omega))).1
 have hv2 := conv_rdA (rrow_open (show RRow D2 w9 (.slice A5 n5 c5) (y9 4) (F9 4) from hB9.2.2.2.1 ▸ hB9.1.ob 4 (by omega))).1
 have HSM := Lib.hid (same10_any cs9 ds9 pkY w9 hP9 hQ9)
 have RG9 := Lib.hid (hC9.range 0 cs9 (fun i _ => by rw [Nat.zero_add]))
 have RT9 : Hid (RowTy Tryz.prog 37 cs9.length) := Lib.hid (row11 hP9.len)
 have SG9 := Lib.hid (hD9.range 0 ds9 (fun i _ => by rw [Nat.zero_add]))
 have ST9 : Hid (RowTy Tryz.prog 37 ds9.length) := Lib.hid (row11 hQ9.len)
 have HB9 := Lib.hid hB9.1.below
 have hne := HNE.out
 clear hB9 hC9 hP9 hD9 hQ9
 go_wp2_with (first
  | (with_reducible refine wpList_ldg (by with_unfolding_all rfl) 37 (.tmp 3) rfl q 0 rfl cs9 RG9.out RT9.out ?_)
  | (with_reducible refine wpList_ldg (by with_unfolding_all rfl) 37 (.tmp 8) rfl b7 0 rfl ds9 SG9.out ST9.out ?_)
  | (go_at_call 14; ((with_reducible refine (HSM.out).mono ?_); rintro e w10 ⟨rfl, hb10⟩; have HB10 := Lib.hid (HB9.out.trans (hb10.mono HB9.out.size)); clear hb10)))
 go_ret
 exact ⟨rfl, HB10.out⟩
def grY (pk : Pkt) (nr : Nat) : Bool := decide (60 < pk.ot.length ∨ 1500 < pk.xt.length ∨ 1500 < pk.pl.length ∨ 1500 < nr)
def opT (i : Int) (c : Bool) (a f : Nat) (R : Option Addr) (nr rc : Nat) : List Value := [.int .i64 i, .bool c, .int .u16 (a : Int), .int .u8 (f : Int), .slice R nr rc]
set_option maxRecDepth 100000 in
theorem great15_any (cs : List Value) (pk : Pkt) (i : Int) (c : Bool) (a f : Nat) (R : Option Addr) (nr rc : Nat) (w : World) (h : PkRd w cs pk) (hr : nr ≤ 9223372036854775807) :
 Calls Tryz.prog 8 #[.agg (cs ++ opT i c a f R nr rc).toArray] w fun e w' => e = .returned (.bool (grY pk nr)) ∧ Below w.heap.size w w' := by
 obtain ⟨A1, a1, B1, b1, D1, d1, e1, h1, h2, h3⟩ := h
 have hB := BlkV.new w 39 (cs ++ opT i c a f R nr rc)
 have HB : Hid (Below w.heap.size w (w.alloc (.cells (cs ++ opT i c a f R nr rc).toArray 39))) := Lib.hid ((Below.refl _ _).alloc (Nat.le_refl _) _)
 have c5 : (w.alloc (.cells (cs ++ opT i c a f R nr rc).toArray 39)).cell? ⟨w.heap.size, 5, none⟩ = some (.slice A1 pk.ot.length a1) := (hB.cell 5).trans (by rw [e1]; rfl)
 have c8 : (w.alloc (.cells (cs ++ opT i c a f R nr rc).toArray 39)).cell? ⟨w.heap.size, 8, none⟩ = some (.slice B1 pk.xt.length b1) := (hB.cell 8).trans (by rw [e1]; rfl)
 have c9 : (w.alloc (.cells (cs ++ opT i c a f R nr rc).toArray 39)).cell? ⟨w.heap.size, 9, none⟩ = some (.slice D1 pk.pl.length d1) := (hB.cell 9).trans (by rw [e1]; rfl)
 have c15 : (w.alloc (.cells (cs ++ opT i c a f R nr rc).toArray 39)).cell? ⟨w.heap.size, 15, none⟩ = some (.slice R nr rc) := (hB.cell 15).trans (by rw [e1]; rfl)
 have s1 := h1.2.1
 have s2 := h2.small.1
 have s3 := h3.small.1
 have HG : Hid (grY pk nr = decide (60 < pk.ot.length ∨ 1500 < pk.xt.length ∨ 1500 < pk.pl.length ∨ 1500 < nr)) := Lib.hid rfl
 obtain ⟨n1, hn1⟩ : ∃ x, x = pk.ot.length := ⟨_, rfl⟩
 obtain ⟨n2, hn2⟩ : ∃ x, x = pk.xt.length := ⟨_, rfl⟩
 obtain ⟨n3, hn3⟩ : ∃ x, x = pk.pl.length := ⟨_, rfl⟩
 rw [← hn1] at c5 s1 HG
 rw [← hn2] at c8 s2 HG
 rw [← hn3] at c9 s3 HG
 obtain ⟨os, hos⟩ : ∃ x, x = cs ++ opT i c a f R nr rc := ⟨_, rfl⟩
 rw [← hos] at HB c5 c8 c9 c15 ⊢
 clear e1 h1 h2 h3 hB hn1 hn2 hn3 hos
 by_cases k1 : (60 : Int) < (n1 : Int)
 · go_enter Tryz.func8, Tryz.ntmps8
   go_wp2
   go_ret
   exact ⟨ret_b (HG.out.trans (decide_eq_true (by omega))).symm, HB.out⟩
 by_cases k2 : (1500 : Int) < (n2 : Int)
 · go_enter Tryz.func8, Tryz.ntmps8
   go_wp2
   go_ret
   exact ⟨ret_b (HG.out.trans (decide_eq_true (by omega))).symm, HB.out⟩
 by_cases k3 : (1500 : Int) < (n3 : Int)
 · go_enter Tryz.func8, Tryz.ntmps8
   go_wp2
   go_ret
   exact ⟨ret_b (HG.out.trans (decide_eq_true (by omega))).symm, HB.out⟩
 by_cases k4 : (1500 : Int) < (nr : Int)
 · go_enter Tryz.func8, Tryz.ntmps8
   go_wp2
   go_ret
   exact ⟨ret_b (HG.out.trans (decide_eq_true (by omega))).symm, HB.out⟩
 · go_enter Tryz.func8, Tryz.ntmps8
   go_wp2
   go_ret
   exact ⟨ret_b (HG.out.trans (decide_eq_false (by omega))).symm, HB.out⟩
def ROwn (bs : List UInt8) (w : World) (p : Value) (_ : Wy) (F : Nat → Prop) : Prop := ∃ A n c base, p = .slice A n c ∧ w.ownsRow base 5 1 (.slice A n c) n (cells bs) ∧ F = fun k => p.ownBlock = some k
theorem rown_lone (bs : List UInt8) : Lone (ROwn bs) where
 low := by
  rintro w p s F ⟨A, n, c, base, rfl, h, rfl⟩ k hk
  exact (h.lt k hk).2
 stay := by
  rintro w w2 p s F ⟨A, n, c, base, rfl, h, rfl⟩ _ hs
  exact ⟨A, n, c, base, rfl, own_at_same h (fun k hk => hs k hk), rfl⟩
theorem rown_open {bs : List UInt8} {w : World} {A : Option Addr} {n c : Nat} {y : Wy} {F : Nat → Prop} (h : ROwn bs w (.slice A n c) y F) : (∃ base, w.ownsRow base 5 1 (.slice A n c) n (cells bs)) ∧ F = fun k => (Value.slice A n c).ownBlock = some k := by
 obtain ⟨A', n', c', base, hp, hr, hF⟩ := h
 injection hp with h1 h2 h3
 subst h1 h2 h3
 exact ⟨⟨base, hr⟩, hF⟩
theorem rown_rd {bs : List UInt8} {w : World} {A : Option Addr} {n c : Nat} {y : Wy} {F : Nat → Prop} (h : ROwn bs w (.slice A n c) y F) : RdS w A n c bs := by
 obtain ⟨⟨base, h⟩, _⟩ := rown_open h
 exact RdS.of_own h
section
variable {R : Nat → World → Value → Wy → (Nat → Prop) → Prop} {n : Nat} {w wx wy wz : World} {p : Nat → Value} {y : Nat → Wy} {F : Nat → Nat → Prop}
theorem Ways.zeroB (R : Nat → World → Value → Wy → (Nat → Prop) → Prop) (p : Nat → Value) (y : Nat → Wy) (F : Nat → Nat → Prop) (hb : Below w.heap.size w wx) : Ways R 0 w p y F wx :=
 ⟨fun i hi => absurd hi (Nat.not_lt_zero i), fun i j hi => absurd hi (Nat.not_lt_zero i), fun i hi => absurd hi (Nat.not_lt_zero i), hb⟩
theorem Ways.sealedO (hL : ∀ i, Lone (R i)) (h : Ways R n w p y F wx) {i : Nat} (hi : i < n) {bs : List UInt8} {y' : Wy} {A : Option Addr} {m c : Nat} {F' : Nat → Prop} (ho : wy.ownsRow wx.heap.size 5 1 (.slice A m c) m (cells bs)) (hn : ∀ k, (Value.slice A m c).ownBlock = some k → ¬ F' k)
 (hr : R i wy (p i) y' F') (hf : Fr (F i) wx wy) (hF : ∀ k, F' k → F i k ∨ wx.heap.size ≤ k) (yq : Wy) (hRn : R n = ROwn bs) :
 ∃ G, Ways R (n + 1) w (fun j => if j = n then .slice A m c else p j) (fun j => if j = n then yq else if j = i then y' else y j) G wy :=
 ⟨_, h.turnMore hL hi hf hr hF (q := .slice A m c) (yq := yq) (G := fun k => (Value.slice A m c).ownBlock = some k) (by rw [hRn]; exact ⟨A, m, c, _, rfl, ho, rfl⟩) (fun k hk => (ho.lt k hk).1) hn⟩
theorem Ways.offO (hL : ∀ i, Lone (R i)) (h : Ways R n w p y F wx) {i j : Nat} (hi : i < n) (hj : j < n) (hij : j ≠ i) {A : Option Addr} {m c : Nat} {bs : List UInt8} (hp : p j = .slice A m c) (hR : R j = ROwn bs) : 0 < m → ∀ ad, A = some ad → ¬ F i ad.block ∧ ad.block < wx.heap.size := by
 have hr := h.ob j hj
 rw [hR, hp] at hr
 obtain ⟨⟨base, ho⟩, hF⟩ := rown_open hr
 intro h0 ad hA
 subst hA
 have hk : F j ad.block := by rw [hF]; rfl
 exact ⟨fun k => h.dis j i hj hi hij _ hk k, (ho.lt _ rfl).2⟩
end
end Go.Proofs.YtmkeioeodlidgaaGreatDoor

namespace Go.Proofs.YtmkeioeodlidgaaGreatDoor
open Go.RowKit Go.ChangeShapes Go.WideShapes Go.Deep
set_option linter.unusedVariables false

section
variable {H : Type} {enc : TypeId × Value → H} {P : Program} {w : World} {base : Nat} {spare : Nat → Bool} {held : Bool}
end

section
variable {H : Type} {enc : TypeId × Value → H} {w : World} {n : Nat}
theorem opened_bytes {v : Value} (h : ∃ y, DataW.trod enc Tryz.prog w 0 (fun _ => true) true n 35 [v] = some y) : ∃ A c bs, v = .slice A (List.length bs) c ∧ RdS w A bs.length c bs := by
 obtain ⟨y, hf⟩ := h
 rcases open_ints Tryz.underlying35 Tryz.underlying5 (by kernel_rfl) hf with ⟨hcs, _⟩ | ⟨x, l, c, zs, hcs, _, hl, hm, hz, _, hcell, hwz⟩
 · simp at hcs
   subst hcs
   exact ⟨none, 0, [], rfl, RdS.nil w⟩
 · simp at hcs
   subst hcs
   obtain ⟨bs, hb⟩ := RdS.of_row (w := w) (a := some x) (len := l) (cap := c) (zs := zs) (.inr ⟨_, rfl, hl, hm, by simpa using hz, hcell, hwz⟩)
   have hn := hb.len
   subst hn
   exact ⟨some x, c, bs, rfl, hb⟩
theorem opened_words {v : Value} (h : ∃ y, DataW.trod enc Tryz.prog w 0 (fun _ => true) true n 34 [v] = some y) : ∃ A c U, v = .slice A (List.length U) c ∧ RdU w A U.length U ∧ ∀ x ∈ U, x < 4294967296 := by
 obtain ⟨y, hf⟩ := h
 rcases open_ints Tryz.underlying34 Tryz.underlying33 (by kernel_rfl) hf with ⟨hcs, _⟩ | ⟨x, l, c, zs, hcs, _, hl, hm, hz, _, hc, hwz⟩
 · simp at hcs
   subst hcs
   exact ⟨none, 0, [], rfl, ⟨rfl, by simp, fun h => by simp at h⟩, by simp⟩
 · simp at hcs
   subst hcs
   simp only [if_true] at hz
   have hlU : ((zs.take l).map Int.toNat).length = l := by simp; omega
   have hlm : l ≤ 9223372036854775807 := by simp only [maxLen] at hm; omega
   refine ⟨some x, c, (zs.take l).map Int.toNat, by rw [hlU], ⟨rfl, by rw [hlU]; exact hlm, fun hn => ?_⟩, fun z hz' => ?_⟩
   · rw [hlU] at hn ⊢
     obtain ⟨b, off, spot⟩ := x
     have h0 := hc 0 (by omega)
     have hs : spot = none := by simpa [Addr.add] using World.cell?_spot h0
     subst hs
     have hadd : ∀ j, (⟨b, off, none⟩ : Addr).add j = ⟨b, off + j, none⟩ := fun j => by unfold Addr.add; split <;> simp_all
     refine ⟨b, off, rfl, ?_, fun j hj => ?_⟩
     · have := World.block_lt_of_cell? w _ h0
       rw [hadd] at this
       exact this
     · have hcj := hc j (by omega)
       rw [hadd] at hcj
       have hjz : j < zs.length := by omega
       have hwj := bounds_u32 (hwz (zs[j]) (List.getElem_mem hjz))
       rw [hcj]
       simp only [List.getD, hjz, hj, List.getElem?_map, List.getElem?_take, if_true, List.getElem?_eq_getElem, Option.map_some, Option.getD_some]
       congr 2
       omega
   · obtain ⟨q, hq, rfl⟩ := List.mem_map.1 hz'
     have := bounds_u32 (hwz q (List.mem_of_mem_take hq))
     omega
theorem opened_bool {v : Value} (h : ∃ y, DataW.trod enc Tryz.prog w 0 (fun _ => true) true n 4 [v] = some y) : ∃ b, v = .bool b := by
 obtain ⟨y, hf⟩ := h
 obtain ⟨b, hb, _⟩ := DataW.trod_bool Tryz.underlying4 hf
 simp at hb
 exact ⟨b, hb⟩
theorem opened_u8 {v : Value} (h : ∃ y, DataW.trod enc Tryz.prog w 0 (fun _ => true) true n 5 [v] = some y) : ∃ x : Nat, v = .int .u8 (x : Int) ∧ x < 256 := by
 obtain ⟨y, hf⟩ := h
 obtain ⟨z, hz, _, hw⟩ := DataW.trod_int Tryz.underlying5 hf
 simp at hz
 have hb := bounds_u8 hw
 refine ⟨z.toNat, ?_, by omega⟩
 rw [hz]
 congr 1
 omega
theorem opened_u16 {v : Value} (h : ∃ y, DataW.trod enc Tryz.prog w 0 (fun _ => true) true n 32 [v] = some y) : ∃ x : Nat, v = .int .u16 (x : Int) ∧ x < 65536 := by
 obtain ⟨y, hf⟩ := h
 obtain ⟨z, hz, _, hw⟩ := DataW.trod_int Tryz.underlying32 hf
 simp at hz
 have hb := bounds_u16 hw
 refine ⟨z.toNat, ?_, by omega⟩
 rw [hz]
 congr 1
 omega
theorem opened_u32 {v : Value} (h : ∃ y, DataW.trod enc Tryz.prog w 0 (fun _ => true) true n 33 [v] = some y) : ∃ x : Nat, v = .int .u32 (x : Int) ∧ x < 4294967296 := by
 obtain ⟨y, hf⟩ := h
 obtain ⟨z, hz, _, hw⟩ := DataW.trod_int Tryz.underlying33 hf
 simp at hz
 have hb := bounds_u32 hw
 refine ⟨z.toNat, ?_, by omega⟩
 rw [hz]
 congr 1
 omega

end
end Go.Proofs.YtmkeioeodlidgaaGreatDoor

namespace Go.Proofs.YtmkeioeodlidgaaGreatDoor
open Go.RowKit Go.ChangeShapes Go.WideShapes Go.Deep
set_option linter.unusedVariables false

inductive FK where
 | int (k : IntKind)
 | bool
def FK.is : FK → Option TypeDesc → Bool
 | .int k, some (.int k') => decide (k = k')
 | .bool, some .bool => true
 | _, _ => false
def FK.ok : FK → Value → Prop
 | .int k, v => ∃ z, v = .int k z ∧ (Lit.int k z).wf = true
 | .bool, v => ∃ b, v = .bool b
def RdF (ks : List FK) (w : World) (A : Option Addr) (n : Nat) (rs : Nat → Nat → Value) : Prop :=
 n ≤ 9223372036854775807 ∧ (∀ i, i < n → ∀ (j : Nat) (k : FK), ks[j]? = some k → k.ok (rs i j)) ∧
 (0 < n → ∃ b off, A = some ⟨b, off, none⟩ ∧ b < w.heap.size ∧ ∀ i, i < n → ∀ j, j < ks.length → w.cell? ⟨b, off + (i * ks.length + j), none⟩ = some (rs i j))
section
variable {ks : List FK} {w w' : World} {A : Option Addr} {n : Nat} {rs : Nat → Nat → Value}
theorem RdF.small (h : RdF ks w A n rs) : n ≤ 9223372036854775807 := h.1
theorem RdF.below (h : RdF ks w A n rs) {B : Nat} (hb : Below B w w') (hB : w.heap.size ≤ B) : RdF ks w' A n rs := by
 refine ⟨h.1, h.2.1, fun hn => ?_⟩
 obtain ⟨b, off, hA, hlt, hc⟩ := h.2.2 hn
 exact ⟨b, off, hA, Nat.lt_of_lt_of_le hlt hb.size, fun i hi j hj => (hb.cell (p := ⟨b, off + (i * ks.length + j), none⟩) (by simp only; omega)).trans (hc i hi j hj)⟩
theorem RdF.at_ (h : RdF ks w A n rs) (hn : 0 < n) : ∃ b off, A = some ⟨b, off, none⟩ ∧ ∀ wx, Below w.heap.size w wx → ∀ i, i < n → ∀ j, j < ks.length → wx.cell? ⟨b, off + (i * ks.length + j), none⟩ = some (rs i j) := by
 obtain ⟨b, off, hA, _, _⟩ := h.2.2 hn
 refine ⟨b, off, hA, fun wx hb i hi j hj => ?_⟩
 obtain ⟨b2, off2, hA2, _, hc2⟩ := (h.below hb (Nat.le_refl _)).2.2 hn
 rw [hA] at hA2
 injection hA2 with e
 injection e with e1 e2
 subst e1; subst e2
 exact hc2 i hi j hj
end
theorem add_at (b o k : Nat) : (⟨b, o, none⟩ : Addr).add k = ⟨b, o + k, none⟩ := by unfold Addr.add; split <;> simp_all
end Go.Proofs.YtmkeioeodlidgaaGreatDoor
