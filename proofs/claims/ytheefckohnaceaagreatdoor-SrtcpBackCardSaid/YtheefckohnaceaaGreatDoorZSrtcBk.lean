/- Several texts in one: plain words and walks. No statement is proved here. -/
import Derived.Test.YtheefckohnaceaaGreatDoorZM26
import Derived.Test.YtheefckohnaceaaGreatDoorZRtcpG1
import Derived.Test.YtheefckohnaceaaGreatDoorZMacRef
import Derived.Test.YtheefckohnaceaaGreatDoorZM10
import Derived.StillTailTactics
namespace Go.Proofs.YtheefckohnaceaaGreatDoor
open List renaming getElem_toArray → xgT, getElem_cons_succ → xgS, getElem_cons_zero → xgZ, setIfInBounds_toArray → xsT, set_cons_succ → xsS, set_cons_zero → xsZ
open Go.RowKit
set_option linter.unusedVariables false

def RB16 (X : List UInt8) : Nat → World → Value → Wc → (Nat → Prop) → Prop
 | 0 => RC
 | 1 => RC
 | 2 => RC
 | 3 => ROwn X
 | _ + 4 => RC
theorem rb16_lone (X : List UInt8) : ∀ i, Lone (RB16 X i)
 | 0 => rc_lone
 | 1 => rc_lone
 | 2 => rc_lone
 | 3 => rown_lone _
 | _ + 4 => rc_lone
theorem auth_keys {s : Wy} (h : s.fit) {W : World} {q : Nat} (hB : BlkV W q 42 (cells s.ks)) : RdS W (some ⟨q, 16, none⟩) 20 20 s.auth := by
 have := rd_auth h (o := 0) hB (fun i _ => by rw [Nat.zero_add])
 simpa using this
set_option maxRecDepth 100000 in
set_option maxHeartbeats 2000000 in
theorem srtcpBack_walk (key salt : List UInt8) (A : Option Addr) (n c : Nat) (l : List Ctl) (a f : Int) (w : World) (ht : Tabs w) (hk : key.length = 16) (hs : salt.length = 14) (h : CtRds w A l) (hn : l.length = n) (hsz : n ≤ 9223372036854775807) (hfit : ∀ c ∈ l, c.fit) (ha : (Lit.int .u16 a).wf = true) (hff : (Lit.int .u8 f).wf = true) :
 Calls Tryz.prog 3 #[.agg (cells (mst key salt)).toArray, .slice A n c, .int .u16 a, .int .u8 f] w fun e w' => e = .returned (.bool true) ∧ Below w.heap.size w w' := by
 have hab := bounds_u16 ha
 have hfb := bounds_u8 hff
 obtain ⟨a, rfl⟩ := Int.eq_ofNat_of_zero_le hab.1
 obtain ⟨f, rfl⟩ := Int.eq_ofNat_of_zero_le hfb.1
 have ha6 : a < 65536 := by omega
 have hf6 : f < 256 := by omega
 clear hab hfb ha hff
 obtain ⟨wB, hwB⟩ : ∃ x, x = w.alloc (.cells (cells (mst key salt)).toArray 25) := ⟨_, rfl⟩
 have hbB : Below w.heap.size w wB := hwB ▸ (Below.refl _ _).alloc (Nat.le_refl _) _
 have hMB : BlkV wB w.heap.size 25 (cells (mst key salt)) := hwB ▸ BlkV.new w _ _
 have htB := ht.below hbB
 have hcB := h.below hbB
 have HML : Hid ((cells (mst key salt)).length = 30) := Lib.hid (by rw [length_cells, mst_len key salt hk hs])
 have HTW : Hid (∀ W, Below wB.heap.size wB W → Tabs W) := Lib.hid (fun W hb => htB.below hb)
 have HMW : Hid (∀ W, Below wB.heap.size wB W → BlkV W w.heap.size 25 (cells (mst key salt))) := Lib.hid (fun W hb => hMB.below hb hMB.lt)
 have HCW : Hid (∀ W, Below wB.heap.size wB W → CtRds W A l) := Lib.hid (fun W hb => hcB.below hb)
 have HAL := Lib.hid (alive16_any wB htB)
 have HGR := Lib.hid (fun W (hb : Below wB.heap.size wB W) => great_any A n c l W (hcB.below hb) hn hsz)
 have HBW : Hid (∀ W, Below wB.heap.size wB W → Below w.heap.size w W) := Lib.hid (fun W hb => hbB.trans (hb.mono hbB.size))
 have HN9 := Lib.hid (fun W => new16_any key salt 9 W hk hs)
 have HR1 := Lib.hid (fun W => rnew16_any key salt 1 W hk hs)
 have HG9 := Lib.hid (newC_good key salt 9 (by decide))
 have HFT := Lib.hid hfit
 have HNL := Lib.hid hn
 have RM : Hid (RowTy Tryz.prog 25 (cells (mst key salt)).length) := Lib.hid (row30 HML.out)
 clear ht hk hs h hn hfit hbB hMB htB hcB
 go_enter Tryz.func3, Tryz.ntmps3
 go_upto_region 1 with (fail)
 rw [← hwB]
 clear hwB
 go_upto_if 28 with (first
  | (go_at_call 5; ((with_reducible refine (Hid.out HAL).mono ?_); rintro e w1 ⟨rfl, hb1⟩; have HB1 := Lib.hid hb1; clear hb1))
  | (go_at_call 6; ((with_reducible refine (HGR.out w1 HB1.out).mono ?_); rintro e w2 ⟨⟨gb, rfl, hgb⟩, hb2⟩; have HB2 := Lib.hid (HB1.out.trans (hb2.mono HB1.out.size)); have HGB := Lib.hid hgb; clear hb2 hgb)))
 clear HAL HGR HB1
 cases gb with
 | true =>
   go_wp2
   go_ret
   exact ⟨rfl, HBW.out _ HB2.out⟩
 | false =>
   have hsm := HGB.out rfl
   have hn60 : n ≤ 60 := by rw [← HNL.out]; exact hsm.1
   clear hsm HGB
   go_upto_region 5 with (fail)
   obtain ⟨X, hX⟩ : ∃ X, X = outS (newC key salt 9) l := ⟨_, rfl⟩
   have HL := Lib.hid (rb16_lone X)
   refine wp_region_noPanic ?_
   refine wp_region_held (S := fun wx => BlkV wx w.heap.size 25 (cells (mst key salt))) (by kernel_rfl) ?_
   change wpAnyH _ _ _ _ _ _ _ _ (World.drew _)
   obtain ⟨w3, hw3⟩ : ∃ x, x = w2.drew := ⟨_, rfl⟩
   rw [← hw3]
   have HB3 : Hid (Below wB.heap.size wB w3) := Lib.hid (hw3 ▸ HB2.out.drew)
   have hS := HMW.out _ HB3.out
   clear hw3 HB2
   refine wpAnyH_take (i := 0) (v := .agg (cells (mst key salt)).toArray) rfl (by kernel_rfl) (by kernel_rfl) (by kernel_rfl) (fun _ _ _ h => h) (Or.inl ⟨by rfl, fun wz hz => ?_⟩) hS ?_
   · (exact run_ld 25 _ rfl w.heap.size 0 (by rfl) (cells (mst key salt)) (hz.range 0 _ (fun i _ => by rw [Nat.zero_add])) RM.out)
   simp only [Act.put, xgT, xgZ, xsT, xsS, xsZ]
   refine wpAnyH_take (i := 2) (v := .agg (cells (mst key salt)).toArray) rfl (by kernel_rfl) (by kernel_rfl) (by kernel_rfl) (fun _ _ _ h => h) (Or.inl ⟨by rfl, fun wz hz => ?_⟩) hS ?_
   · (exact run_ld 25 _ rfl w.heap.size 0 (by rfl) (cells (mst key salt)) (hz.range 0 _ (fun i _ => by rw [Nat.zero_add])) RM.out)
   simp only [Act.put, xgT, xgS, xgZ, xsT, xsS, xsZ]
   refine wpAnyH_take (i := 4) (v := .agg (cells (mst key salt)).toArray) rfl (by kernel_rfl) (by kernel_rfl) (by kernel_rfl) (fun _ _ _ h => h) (Or.inl ⟨by rfl, fun wz hz => ?_⟩) hS ?_
   · (exact run_ld 25 _ rfl w.heap.size 0 (by rfl) (cells (mst key salt)) (hz.range 0 _ (fun i _ => by rw [Nat.zero_add])) RM.out)
   simp only [Act.put, xgT, xgS, xgZ, xsT, xsS, xsZ]
   refine anyH_one (i := 1) (by kernel_rfl) rfl rfl (fun H hH => ?_)
   simp only [xgT, xgS, xgZ]
   go_simp
   refine (HN9.out w3).mono ?_
   rintro e w4 ⟨pa, gaF, rfl, ha, la, hb⟩
   obtain ⟨ga, gab, hpa, hwa, hfa⟩ := rc_ptr ha
   subst hpa
   clear hwa hfa
   have HA1 := Lib.hid ((Ways.zeroB (w := wB) (RB16 X) (fun _ => undef) (fun _ => newC key salt 9) (fun _ _ => False) HB3.out).more HL.out hb ha la)
   have hSw4 := HMW.out _ HA1.out.below
   refine hH _ _ hSw4 ?_
   clear hH ha la hb
   refine anyH_one (i := 3) (by kernel_rfl) rfl rfl (fun H hH => ?_)
   simp only [xgT, xgS, xgZ]
   go_simp
   refine (HN9.out w4).mono ?_
   rintro e w5 ⟨pb, gbF, rfl, ha, la, hb⟩
   obtain ⟨gb, gbb, hpa, hwa, hfa⟩ := rc_ptr ha
   subst hpa
   clear hwa hfa
   have HA2 := Lib.hid (HA1.out.more HL.out hb ha la)
   have hSw5 := HMW.out _ HA2.out.below
   refine hH _ _ hSw5 ?_
   clear hH ha la hb
   refine anyH_one (i := 5) (by kernel_rfl) rfl rfl (fun H hH => ?_)
   simp only [xgT, xgS, xgZ]
   go_simp
   refine (HN9.out w5).mono ?_
   rintro e w6 ⟨pc, gcF, rfl, ha, la, hb⟩
   obtain ⟨gc, gcb, hpa, hwa, hfa⟩ := rc_ptr ha
   subst hpa
   clear hwa hfa
   have HA3 := Lib.hid (HA2.out.more HL.out hb ha la)
   have hSw6 := HMW.out _ HA3.out.below
   refine hH _ _ hSw6 ?_
   clear hH ha la hb
   refine wpAnyH_take (i := 6) (v := ?_) rfl (by kernel_rfl) (by kernel_rfl) (by kernel_rfl) (fun _ _ _ h => h) (Or.inl ⟨by rfl, ?_⟩) hSw6 ?_
   case refine_2 => (intro wz hz; go_simp; with_reducible rfl)
   simp only [Act.put, xgT, xgS, xgZ, xsT, xsS, xsZ]
   refine wpAnyH_take (i := 7) (v := ?_) rfl (by kernel_rfl) (by kernel_rfl) (by kernel_rfl) (fun _ _ _ h => h) (Or.inl ⟨by rfl, ?_⟩) hSw6 ?_
   case refine_2 => (intro wz hz; go_simp; with_reducible rfl)
   simp only [Act.put, xgT, xgS, xgZ, xsT, xsS, xsZ]
   refine wpAnyH_take (i := 8) (v := ?_) rfl (by kernel_rfl) (by kernel_rfl) (by kernel_rfl) (fun _ _ _ h => h) (Or.inl ⟨by rfl, ?_⟩) hSw6 ?_
   case refine_2 => (intro wz hz; go_simp; with_reducible rfl)
   simp only [Act.put, xgT, xgS, xgZ, xsT, xsS, xsZ]
   refine wpAnyH_done (by kernel_rfl) ?_ _
   refine NoPanic.normal ?_
   obtain ⟨p6, y6, F6, hA6⟩ : ∃ p y F, Ways (RB16 X) 3 wB p y F w6 ∧ p 0 = .pointer (some ⟨ga, 0, none⟩) ∧ p 1 = .pointer (some ⟨gb, 0, none⟩) ∧ p 2 = .pointer (some ⟨gc, 0, none⟩) ∧ y 0 = newC key salt 9 ∧ y 1 = newC key salt 9 ∧ y 2 = newC key salt 9 := ⟨_, _, _, HA3.out, rfl, rfl, rfl, rfl, rfl, rfl⟩
   clear HA1 HA2 HA3 hS hSw4 hSw5 hSw6 HB3 HN9
   have HSE := Lib.hid (seal16_any (.pointer (some ⟨ga, 0, none⟩)) (newC key salt 9) (F6 0) A n c l w6 (by have := hA6.1.ob 0 (by omega); rw [hA6.2.1, hA6.2.2.2.2.1] at this; exact this) (HTW.out _ hA6.1.below) HG9.out (HCW.out _ hA6.1.below) HNL.out HFT.out)
   have HA6 := Lib.hid hA6
   clear hA6
   by_cases hm : mayS l
   case neg =>
    have hq : whyS (newC key salt 9) l = 1 := whyS_1 (fun k => by
     rcases k with k | k
     · exact absurd (show (9 : Int) ≤ 0 from k) (by decide)
     · exact absurd (show (2147483648 : Int) ≤ 0 from k) (by decide)) hm
    have HSE1 := Lib.hid (HSE.out.mono (R' := fun e w' => ∃ A n c, e = .returned (.tuple #[.slice A n c, .int .i64 1]) ∧ Below wB.heap.size wB w') (fun e w' k => by
     obtain ⟨A, n, c, he, ho, hr, hfr⟩ := k
     rw [hq] at he
     exact ⟨A, n, c, he, HA6.out.1.below.trans (hfr.below (HA6.out.1.lo 0 (by omega)) HA6.out.1.below.size)⟩))
    clear HSE hm hq
    go_wp2_with (go_at_call 8; ((with_reducible refine (HSE1.out).mono ?_); rintro e w7 ⟨A7, n7, c7, rfl, hb7⟩; have HB7 := Lib.hid hb7; clear hb7))
    go_ret
    exact ⟨rfl, HBW.out _ HB7.out⟩
   obtain ⟨x1, x2⟩ := new_seals (key := key) (salt := salt) (limit := 9) (l := l) (by decide) hm
   obtain ⟨o1, o2, o3, o4, o5, o6⟩ := new_opens (key := key) (salt := salt) hm X (hX.trans x2)
   have hg2 := oneC_good (key := key) (salt := salt) hm
   have HOK := Lib.hid hm.1
   have hlen := hm.2
   obtain ⟨s1, hs1⟩ : ∃ s, s = oneC key salt 9 (soC (wrL l)) := ⟨_, rfl⟩
   rw [← hs1] at o4 o5 hg2
   have HSE1 : Hid (Calls Tryz.prog 8 #[.pointer (some ⟨ga, 0, none⟩), .slice A n c] w6 fun e w' => ∃ A n c s', e = .returned (.tuple #[.slice A n c, .int .i64 0]) ∧ w'.ownsRow w6.heap.size 5 1 (.slice A n c) n (cells X) ∧ RC w' (.pointer (some ⟨ga, 0, none⟩)) s' (F6 0) ∧ Fr (F6 0) w6 w') := Lib.hid (HSE.out.mono (fun e w' k => by
    obtain ⟨A, n, c, he, ho, hr, hf⟩ := k
    rw [x1] at he
    rw [← hX] at ho
    exact ⟨A, n, c, _, he, ho, hr, hf⟩))
   obtain ⟨L, hLX⟩ : ∃ L, L = X.length := ⟨_, rfl⟩
   have HLX := Lib.hid hLX
   have hL22 : 22 ≤ L ∧ L ≤ 1200 := by omega
   obtain ⟨so, hso⟩ : ∃ so, so = soC X := ⟨_, rfl⟩
   have HO1 : Hid (∀ W p F A c, RC W p (newC key salt 9) F → Tabs W → RdS W A L c X → (0 < L → ∀ ad, A = some ad → ¬ F ad.block ∧ ad.block < W.heap.size) → Calls Tryz.prog 9 #[p, .slice A L c] W (OpenOk p s1 F so l W)) := Lib.hid (fun W p F A c k1 k2 k3 k4 => by
    have := open16_ok p (newC key salt 9) F A L c X l W k1 k2 HG9.out (by show (0 : Int) + 1 ≤ 900; decide) k3 o1 o2 hm.1 HFT.out k4
    rw [o4, ← hso] at this
    exact this)
   have HO2 : Hid (∀ W p F A c, RC W p s1 F → Tabs W → RdS W A L c X → Calls Tryz.prog 9 #[p, .slice A L c] W (OpenNo p s1 F 5 W)) := Lib.hid (fun W p F A c k1 k2 k3 => by
    have := open16_no p s1 F A L c X W k1 k2 hg2 k3 (by rw [o5]; decide)
    rw [o5] at this
    exact this)
   clear HSE x1 x2 o1 o2 o3 o4 o5 o6 hg2 hs1 hX hLX hso hlen hm
   go_upto_region 9 with (go_at_call 8; ((with_reducible refine (HSE1.out).mono ?_); rintro e w7 ⟨A7, n7, c7, s7, rfl, ho7, hr7, hf7⟩; have en7 : n7 = L := (by rw [HLX.out]; exact (RdS.of_own ho7).len.symm); subst en7; have HT7 := Lib.hid (And.intro ho7 (And.intro hr7 hf7)); clear ho7 hr7 hf7))
   obtain ⟨G7, hG7⟩ := HA6.out.1.sealedO HL.out (i := 0) (by omega) HT7.out.1 (fun k hk hk2 => by
    have h1 := (HT7.out.1.lt k hk).1
    have h2 := (HL.out 0).low _ _ _ _ (HA6.out.1.ob 0 (by omega)) k hk2
    omega) (by rw [HA6.out.2.1]; exact HT7.out.2.1) HT7.out.2.2 (fun k hk => .inl hk) (newC key salt 9) rfl
   obtain ⟨p7, y7, F7, hA7⟩ : ∃ p y F, Ways (RB16 X) 4 wB p y F w7 ∧ p 1 = .pointer (some ⟨gb, 0, none⟩) ∧ p 2 = .pointer (some ⟨gc, 0, none⟩) ∧ p 3 = .slice A7 n7 c7 ∧ y 1 = newC key salt 9 ∧ y 2 = newC key salt 9 := ⟨_, _, _, hG7, HA6.out.2.2.1, HA6.out.2.2.2.1, rfl, HA6.out.2.2.2.2.2.1, HA6.out.2.2.2.2.2.2⟩
   clear HSE1 HA6 hG7 HT7
   have HC8 := Lib.hid (HO1.out w7 (.pointer (some ⟨gb, 0, none⟩)) (F7 1) A7 c7 (by have := hA7.1.ob 1 (by omega); rw [hA7.2.1, hA7.2.2.2.2.1] at this; exact this) (HTW.out _ hA7.1.below) (rown_rd (show ROwn X w7 (.slice A7 n7 c7) (y7 3) (F7 3) from hA7.2.2.2.1 ▸ hA7.1.ob 3 (by omega))) (hA7.1.offO HL.out (i := 1) (j := 3) (by omega) (by omega) (by decide) hA7.2.2.2.1 rfl))
   have HA7 := Lib.hid hA7
   clear hA7
   go_upto_region 10 with (go_at_call 9; ((with_reducible refine (HC8.out).mono ?_); rintro e w8 ⟨A8, n8, c8, b8, hn8, rfl, ho8, hw8, hF8, hr8, hf8⟩; have HT8 := Lib.hid (And.intro hr8 hf8); have HO8 := Lib.hid (And.intro hn8 ho8); clear ho8 hr8 hf8 hn8 hw8 hF8))
   have hA8' := HA7.out.1.turn HL.out (i := 1) (by omega) HT8.out.2 (by rw [HA7.out.2.1]; exact HT8.out.1) (fun k hk => .inl hk)
   obtain ⟨p8, y8, F8, hA8⟩ : ∃ p y F, Ways (RB16 X) 4 wB p y F w8 ∧ p 1 = .pointer (some ⟨gb, 0, none⟩) ∧ p 2 = .pointer (some ⟨gc, 0, none⟩) ∧ p 3 = .slice A7 n7 c7 ∧ y 1 = s1 ∧ y 2 = newC key salt 9 := ⟨_, _, _, hA8', HA7.out.2.1, HA7.out.2.2.1, HA7.out.2.2.2.1, rfl, HA7.out.2.2.2.2.2⟩
   clear HC8 HA7 hA8' HT8 HO1
   have HC9 := Lib.hid (HO2.out w8 (.pointer (some ⟨gb, 0, none⟩)) (F8 1) A7 c7 (by have := hA8.1.ob 1 (by omega); rw [hA8.2.1, hA8.2.2.2.2.1] at this; exact this) (HTW.out _ hA8.1.below) (rown_rd (show ROwn X w8 (.slice A7 n7 c7) (y8 3) (F8 3) from hA8.2.2.2.1 ▸ hA8.1.ob 3 (by omega))))
   have HA8 := Lib.hid hA8
   clear hA8
   go_upto_region 11 with (go_at_call 9; ((with_reducible refine (HC9.out).mono ?_); rintro e w9 ⟨rfl, hr9, hb9⟩; have HA9 := Lib.hid (HA8.out.1.on HL.out hb9); have HO9 := Lib.hid (HO8.out.2.below hb9); clear hr9 hb9))
   have en8 : n8 = n := HO8.out.1.symm.trans HNL.out
   subst en8
   have HSM := Lib.hid (sames_yes A8 A n8 c8 c l w9 (HO9.out.rds HNL.out) (HCW.out _ HA9.out.below) HNL.out (by omega) (fun c hc => (HOK.out.2.1 c hc).small))
   clear HC9 HO8 HO9 HO2
   go_upto_region 13 with (go_at_call 10; ((with_reducible refine (HSM.out).mono ?_); rintro e w12 ⟨rfl, hb12⟩; have HA12 := Lib.hid (HA9.out.on HL.out hb12); clear hb12))
   clear HSM HA9
   have HP := Lib.hid (show p8 2 = .pointer (some ⟨gc, 0, none⟩) ∧ p8 3 = .slice A7 n7 c7 ∧ y8 2 = newC key salt 9 from ⟨HA8.out.2.2.1, HA8.out.2.2.2.1, HA8.out.2.2.2.2.2⟩)
   clear HA8
   by_cases hf0 : f = 0
   · subst hf0
     go_wp2
     go_ret
     exact ⟨rfl, HBW.out _ HA12.out.below⟩
   have hf0' : ((f : Int) == 0) = false := by simp; omega
   obtain ⟨⟨baseX, hoX⟩, hFX⟩ := rown_open (show ROwn X w12 (.slice A7 n7 c7) (y8 3) (F8 3) from HP.out.2.1 ▸ HA12.out.ob 3 (by omega))
   obtain ⟨gX, hgX, hbX, hcX⟩ := own_at hoX (by omega)
   subst hgX
   obtain ⟨K, hK⟩ : ∃ K, K = a % n7 := ⟨_, rfl⟩
   have hKn : K < n7 := by rw [hK]; exact Nat.mod_lt _ (by omega)
   have hcell := (hcX K hKn).1
   have hfr := (hcX K hKn).2
   have hX2 := own_set hoX (by omega) K (X.getD K 0 ^^^ UInt8.ofNat f)
   have HXO := Lib.hid hX2
   have hxor := flip_xor (X.getD K 0) f hf6
   have HXR := Lib.hid hxor
   obtain ⟨z, hz⟩ : ∃ z : Int, z = ((X.getD K 0).toNat : Int) := ⟨_, rfl⟩
   rw [← hz] at hcell
   have HZ := Lib.hid hz
   have hwv : IntKind.i64.wrap (a : Int) = (a : Int) := IntWalk.i64_in _ (by omega)
   have htm : Int.tmod (a : Int) (n7 : Int) = (K : Int) := by rw [Int.tmod_eq_emod_of_nonneg (by omega), hK]; omega
   have hNb : ((n7 : Int) == 0) = false := by simp; omega
   have hNf : ((n7 : Int) = 0) = False := by simp; omega
   have hNz : (n7 = 0) = False := by simp; omega
   have hwq : IntKind.i64.wrap (K : Int) = (K : Int) := IntWalk.i64_in _ (by omega)
   have hqp : 0 ≤ (K : Int) := by omega
   have hFXe := Lib.hid hFX
   clear hoX hcX hX2 hxor hz hK hFX hbX
   go_upto_region 15 with (fail)
   go_still_tail 17, (by kernel_rfl)
   change wpList _ _ _ _ _ w12.drew
   have HA13 : Hid (Ways (RB16 X) 4 wB p8 y8 F8 w12.drew) := Lib.hid (HA12.out.on HL.out (Below.refl _ _).drew)
   have HX13 : Hid ((w12.drew.setCell ⟨gX, K, none⟩ (.int .u8 (bits BinOp.xor IntKind.u8 z (f : Int)))).ownsRow baseX 5 1 (.slice (some ⟨gX, 0, none⟩) n7 c7) n7 (cells (flipB X K f))) := Lib.hid (by rw [HZ.out, HXR.out]; exact HXO.out)
   clear HA12 HXO
   have hcell13 : w12.drew.cell? ⟨gX, K, none⟩ = _ := hcell
   have hfr13 : w12.drew.frozen? ⟨gX, K, none⟩ = false := hfr
   clear hcell hfr
   generalize w12.drew = w13 at HA13 HX13 hcell13 hfr13 ⊢
   obtain ⟨w14, hw14⟩ : ∃ x, x = w13.setCell ⟨gX, K, none⟩ (.int .u8 (bits BinOp.xor IntKind.u8 z (f : Int))) := ⟨_, rfl⟩
   have hfX : Fr (F8 3) w13 w14 := by rw [hw14]; exact Fr.of_only (Only.set w13 gX K _) (by rw [hFXe.out]; rfl)
   rw [← hw14] at HX13
   have HA14 : Hid (Ways (RB16 (flipB X K f)) 4 wB p8 y8 F8 w14) := Lib.hid (HA13.out.swap HL.out (i := 3) (by omega) (fun j hj => by
    match j, hj with
    | 0, _ => rfl
    | 1, _ => rfl
    | 2, _ => rfl
    | 3, h => exact absurd rfl h
    | _ + 4, _ => rfl) hfX (by rw [HP.out.2.1]; exact ⟨_, _, _, _, rfl, HX13.out, hFXe.out⟩))
   clear HA13 hfX HX13
   go_upto_region 16 with (fail)
   rw [← hw14]
   clear hw14 hcell13 hfr13
   obtain ⟨X2, hX2⟩ : ∃ x, x = flipB X K f := ⟨_, rfl⟩
   have hX2l : X2.length = n7 := by rw [hX2]; unfold flipB; rw [List.length_set]; exact HLX.out.symm
   rw [← hX2] at HA14
   have HL2 := Lib.hid (rb16_lone X2)
   obtain ⟨N, hN⟩ : ∃ N, n7 = N + 10 := ⟨n7 - 10, by omega⟩
   have HNN := Lib.hid hN
   have eN : (n7 : Int) - 10 = (N : Int) := by omega
   have hr14 := rown_rd (show ROwn X2 w14 (.slice (some ⟨gX, 0, none⟩) n7 c7) (y8 3) (F8 3) from HP.out.2.1 ▸ HA14.out.ob 3 (by omega))
   have hc7 : n7 ≤ c7 := hr14.le
   have hc7m : c7 ≤ 9223372036854775807 := hr14.small.2
   have hNc : (N : Int) ≤ (c7 : Int) := by omega
   obtain ⟨AL, eL, eL2, hrl⟩ := run_lo (some ⟨gX, 0, none⟩) n7 c7 N (N : Int) rfl (by omega) hc7 hr14.max
   rw [show n7 - N = 10 by omega] at eL eL2
   have HCV : Hid (∀ wx, RdS wx (some ⟨gX, 0, none⟩) n7 c7 X2 → (convert 32 9 (.slice AL 10 (c7 - N))).run Tryz.prog wx = .ok (.string (txt (X2.drop N))) wx) := Lib.hid (fun wx k => conv_rdA (by have := hrl wx X2 k; rwa [show n7 - N = 10 by omega] at this))
   have hz50 := zero50
   have HKL : Hid ((cells (kys key salt 3)).length = 50) := Lib.hid (by rw [length_cells, kys_len])
   have HZL : Hid ((cells Z50).length = 50) := Lib.hid (by rw [length_cells, Z50_len])
   have HX2L := Lib.hid hX2l
   have hKMF := newC_ks key salt 9
   have HTG : Hid (∀ W q, BlkV W q 42 (cells (kys key salt 3)) → RdS W (some ⟨gX, 0, none⟩) n7 c7 X2 → Calls Tryz.prog 12 #[.slice (some ⟨q, 16, none⟩) 20 20, .int .i64 10, .slice (some ⟨gX, 0, none⟩) N c7] W fun e w' => ∃ A' c', e = .returned (.slice A' 10 c') ∧ RdS w' A' 10 c' (tagC (newC key salt 9).y (X2.take N)) ∧ Below W.heap.size W w') := Lib.hid (fun W q kb k => rtag_any _ 20 20 (newC key salt 9).y.auth 10 (some ⟨gX, 0, none⟩) N c7 (X2.take N) W (auth_keys HG9.out.1.1 (by rw [hKMF]; exact kb)) (k.headR N (by omega)) (by omega) (by omega) (by omega))
   clear hX2 hrl hr14 hX2l hN hKMF
   have RG14 := Lib.hid ((HMW.out _ HA14.out.below).range 0 (cells (mst key salt)) (fun i _ => by rw [Nat.zero_add]))
   have HM14 := HMW.out _ HA14.out.below
   obtain ⟨KS, hKS⟩ : ∃ KS, KS = cells (kys key salt 3) := ⟨_, rfl⟩
   rw [← hKS] at HKL HTG
   have HR1' : Hid (∀ W, Calls Tryz.prog 11 #[.agg (cells (mst key salt)).toArray, .int .i64 1] W fun e w' => ∃ q cs, e = .returned (.pointer (some ⟨q, 0, none⟩)) ∧ BlkV w' q 46 (KS ++ cs) ∧ Below W.heap.size W w') := Lib.hid (by rw [hKS]; exact HR1.out)
   have HKSO : Hid (∀ v ∈ KS, v.oneCell' = true) := Lib.hid (by rw [hKS]; exact cells_one _)
   obtain ⟨MM, hMM⟩ : ∃ MM, MM = cells (mst key salt) := ⟨_, rfl⟩
   rw [← hMM] at RG14 RM HR1'
   clear hKS HR1 HM14 HMW hMM HML
   go_upto_region 18 with (first
    | (with_reducible refine wpList_ld rfl 25 (.tmp 4) rfl w.heap.size 0 rfl MM RG14.out RM.out ?_)
    | (go_at_call 11; ((with_reducible refine (HR1'.out w14).mono ?_); rintro e w15 ⟨q15, cs15, rfl, hB15, hb15⟩; have HQ15 := Lib.hid (hB15.range 0 KS (fun i hi => by rw [Nat.zero_add]; exact List.getElem?_append_left hi)); have HA15 := Lib.hid (HA14.out.on HL2.out hb15); have hI16 := BlkV.new w15 42 (cells Z50); clear hB15 hb15))
    | (with_reducible refine wpList_ld rfl 42 (.tmp 96) rfl q15 0 rfl KS HQ15.out (row50 HKL.out) ?_)
    | ((with_reducible refine wpList_st rfl 42 (.tmp 21) (.tmp 97) rfl w15.heap.size 0 KS rfl rfl 42 _ hI16 (by rw [HKL.out, HZL.out]; omega) (row50 HKL.out) HKSO.out ?_); intro w16 hB16 ho16; rw [splice_all _ _ (by rw [HKL.out, HZL.out])] at hB16; have HB16 := Lib.hid hB16; have HA16 := Lib.hid (HA15.out.on HL2.out (((Below.refl _ _).alloc (Nat.le_refl _) _).trans (ho16.below (Nat.le_refl _)))); clear hB16 ho16))
   obtain ⟨q, hq⟩ : ∃ q, q = w15.heap.size := ⟨_, rfl⟩
   rw [← hq] at HB16 ⊢
   clear HA14 HQ15 HA15 hI16 RG14 HR1' hq
   refine wp_region_noPanic ?_
   refine wp_region_held (S := fun wx => BlkV wx q 42 KS ∧ RdS wx (some ⟨gX, 0, none⟩) n7 c7 X2) (by kernel_rfl) ?_
   change wpAnyH _ _ _ _ _ _ _ _ (World.drew _)
   obtain ⟨w17, hw17⟩ : ∃ x, x = w16.drew := ⟨_, rfl⟩
   rw [← hw17]
   have HA17 : Hid (Ways (RB16 X2) 4 wB p8 y8 F8 w17) := Lib.hid (hw17 ▸ HA16.out.on HL2.out (Below.refl _ _).drew)
   have HRX : Hid (∀ W, Ways (RB16 X2) 4 wB p8 y8 F8 W → RdS W (some ⟨gX, 0, none⟩) n7 c7 X2) := Lib.hid (fun W k => rown_rd (show ROwn X2 W (.slice (some ⟨gX, 0, none⟩) n7 c7) (y8 3) (F8 3) from HP.out.2.1 ▸ k.ob 3 (by omega)))
   have hS : BlkV w17 q 42 KS ∧ RdS w17 (some ⟨gX, 0, none⟩) n7 c7 X2 := ⟨hw17 ▸ HB16.out, HRX.out _ HA17.out⟩
   clear hw17 HA16 HB16
   refine wpAnyH_take (i := 0) (v := ?_) rfl (by kernel_rfl) (by kernel_rfl) (by kernel_rfl) (fun _ _ _ h => h) (Or.inl ⟨by rfl, ?_⟩) hS ?_
   case refine_2 => (intro wz hz; go_simp; with_reducible rfl)
   simp only [Act.put, xgT, xgZ, xsT, xsS, xsZ]
   refine wpAnyH_take (i := 1) (v := ?_) rfl (by kernel_rfl) (by kernel_rfl) (by kernel_rfl) (fun _ _ _ h => h) (Or.inl ⟨by rfl, ?_⟩) hS ?_
   case refine_2 => (intro wz hz; go_simp; with_reducible rfl)
   simp only [Act.put, xgT, xgS, xgZ, xsT, xsS, xsZ]
   refine wpAnyH_take (i := 2) (v := ?_) rfl (by kernel_rfl) (by kernel_rfl) (by kernel_rfl) (fun _ _ _ h => h) (Or.inl ⟨by rfl, ?_⟩) hS ?_
   case refine_2 => (intro wz hz; go_simp; with_reducible rfl)
   simp only [Act.put, xgT, xgS, xgZ, xsT, xsS, xsZ]
   refine wpAnyH_take (i := 3) (v := ?_) rfl (by kernel_rfl) (by kernel_rfl) (by kernel_rfl) (fun _ _ _ h => h) (Or.inl ⟨by rfl, ?_⟩) hS ?_
   case refine_2 => (intro wz hz; go_simp; with_reducible rfl)
   simp only [Act.put, xgT, xgS, xgZ, xsT, xsS, xsZ]
   refine wpAnyH_take (i := 4) (v := ?_) rfl (by kernel_rfl) (by kernel_rfl) (by kernel_rfl) (fun _ _ _ h => h) (Or.inl ⟨by rfl, ?_⟩) hS ?_
   case refine_2 => (intro wz hz; go_simp; with_reducible rfl)
   simp only [Act.put, xgT, xgS, xgZ, xsT, xsS, xsZ]
   refine wpAnyH_take (i := 7) (v := ?_) rfl (by kernel_rfl) (by kernel_rfl) (by kernel_rfl) (fun _ _ _ h => h) (Or.inl ⟨by rfl, ?_⟩) hS ?_
   case refine_2 => (intro wz hz; go_simp; with_reducible rfl)
   simp only [Act.put, xgT, xgS, xgZ, xsT, xsS, xsZ]
   refine wpAnyH_take (i := 8) (v := ?_) rfl (by kernel_rfl) (by kernel_rfl) (by kernel_rfl) (fun _ _ _ h => h) (Or.inl ⟨by rfl, ?_⟩) hS ?_
   case refine_2 => (intro wz hz; go_simp; with_reducible rfl)
   simp only [Act.put, xgT, xgS, xgZ, xsT, xsS, xsZ]
   refine wpAnyH_take (i := 9) (v := ?_) rfl (by kernel_rfl) (by kernel_rfl) (by kernel_rfl) (fun _ _ _ h => h) (Or.inl ⟨by rfl, ?_⟩) hS ?_
   case refine_2 => (intro wz hz; go_simp; with_reducible rfl)
   simp only [Act.put, xgT, xgS, xgZ, xsT, xsS, xsZ]
   refine wpAnyH_take (i := 10) (v := ?_) rfl (by kernel_rfl) (by kernel_rfl) (by kernel_rfl) (fun _ _ _ h => h) (Or.inl ⟨by rfl, ?_⟩) hS ?_
   case refine_2 => (intro wz hz; (have hcv := HCV.out wz hz.2); go_simp; with_reducible rfl)
   simp only [Act.put, xgT, xgS, xgZ, xsT, xsS, xsZ]
   refine anyH_one (i := 5) (by kernel_rfl) rfl rfl (fun H hH => ?_)
   simp only [xgT, xgS, xgZ]
   go_simp
   refine (HTG.out w17 q hS.1 hS.2).mono ?_
   rintro e w18 ⟨A18, c18, rfl, hr18, hb18⟩
   have HA18 := Lib.hid (HA17.out.on HL2.out hb18)
   have hS18 : BlkV w18 q 42 KS ∧ RdS w18 (some ⟨gX, 0, none⟩) n7 c7 X2 := ⟨hS.1.below hb18 hS.1.lt, HRX.out _ HA18.out⟩
   have hc18 := conv_rdA hr18
   refine hH _ _ hS18 ?_
   clear hH hb18 hS hr18
   refine anyH_one (i := 6) (by kernel_rfl) rfl rfl (fun H hH => ?_)
   simp only [xgT, xgS, xgZ]
   go_simp
   refine hH _ _ hS18 ?_
   clear hH hc18
   refine wpAnyH_take (i := 11) (v := ?_) rfl (by kernel_rfl) (by kernel_rfl) (by kernel_rfl) (fun _ _ _ h => h) (Or.inl ⟨by rfl, ?_⟩) hS18 ?_
   case refine_2 => (intro wz hz; go_simp; with_reducible rfl)
   simp only [Act.put, xgT, xgS, xgZ, xsT, xsS, xsZ]
   refine wpAnyH_done (by kernel_rfl) ?_ _
   refine NoPanic.normal ?_
   clear HA17 hS18 HTG HCV eL eL2
   by_cases hT : tagC (newC key salt 9).y (X2.take N) = X2.drop N
   · have hTe : ((txt (tagC (newC key salt 9).y (X2.take N))).toList == (txt (X2.drop N)).toList) = true := by rw [txt_toList, txt_toList, hT]; exact beq_self_eq_true _
     simp only [hTe]
     clear hTe hT
     go_wp2
     go_ret
     exact ⟨rfl, HBW.out _ HA18.out.below⟩
   have hTe : ((txt (tagC (newC key salt 9).y (X2.take N))).toList == (txt (X2.drop N)).toList) = false := by rw [txt_toList, txt_toList]; exact beq_eq_false_iff_ne.2 hT
   simp only [hTe]
   have hna := new_authC (y := (newC key salt 9).y) (X := X2) (by rw [HX2L.out, HNN.out, Nat.add_sub_cancel]; exact hT)
   obtain ⟨v, hv⟩ : ∃ v, v = whyC (newC key salt 9).y X2 := ⟨_, rfl⟩
   have HC19 := Lib.hid (open16_no (.pointer (some ⟨gc, 0, none⟩)) (newC key salt 9) (F8 2) (some ⟨gX, 0, none⟩) n7 c7 X2 w18 (by have := HA18.out.ob 2 (by omega); rw [HP.out.1, HP.out.2.2] at this; exact this) (HTW.out _ HA18.out.below) HG9.out (HRX.out _ HA18.out) hna)
   rw [← hv] at hna HC19
   have hqn : (v == 0) = false := by simpa using hna
   have hqn2 : (v = 0) = False := by simpa using hna
   have hqn3 : (v != 0) = true := by simpa using hna
   clear hTe hT hna hv
   go_upto_region 21 with (go_at_call 9; ((with_reducible refine (HC19.out).mono ?_); rintro e w19 ⟨rfl, hr19, hb19⟩; have HR19 := Lib.hid hr19; have HB19 := Lib.hid (HA18.out.below.trans (hb19.mono HA18.out.below.size)); clear hr19 hb19))
   have HUS : Hid (Calls Tryz.prog 13 #[.pointer (some ⟨gc, 0, none⟩)] w19 fun e w' => e = .returned (.int .i64 0) ∧ w19 = w') := Lib.hid (used16_of gc (newC key salt 9) _ w19 HR19.out HG9.out.1.1)
   clear HR19
   go_wp2_with (go_at_call 13; ((with_reducible refine (HUS.out).mono ?_); rintro e w' ⟨rfl, rfl⟩))
   go_ret
   exact ⟨rfl, HBW.out _ HB19.out⟩
end Go.Proofs.YtheefckohnaceaaGreatDoor
