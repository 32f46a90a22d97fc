/- Several texts in one: plain words and walks. No statement is proved here. -/
import Derived.Test.YtheefckohnaceaaGreatDoorZM17
import Derived.Test.YtheefckohnaceaaGreatDoorZM15
import Derived.Maps.Own
namespace Go.Proofs.YtheefckohnaceaaGreatDoor
open Go.RowKit
set_option linter.unusedVariables false

theorem rate_fit (m e : Nat) (hm : m < 262144) (he : e < 64) (hr : m * 2 ^ e < 9223372036854775808) : e + Lib.bitLen m < 64 := by
 by_cases h0 : 0 < m
 · obtain ⟨h1, h2⟩ := (bitLen_spec m (by omega)).2 h0
   obtain ⟨L, hL⟩ : ∃ L, Lib.bitLen m = L + 1 := ⟨Lib.bitLen m - 1, by omega⟩
   rw [hL, Nat.add_sub_cancel] at h1
   rw [hL]
   by_cases h3 : e + L < 63
   · omega
   · have h4 : (2 : Nat) ^ 63 ≤ 2 ^ (L + e) := Nat.pow_le_pow_right (by omega) (by omega)
     rw [Nat.pow_add] at h4
     have h5 : 2 ^ L * 2 ^ e ≤ m * 2 ^ e := Nat.mul_le_mul_right _ h1
     have h6 : (2 : Nat) ^ 63 = 9223372036854775808 := by decide
     omega
 · have h1 : m = 0 := by omega
   subst h1
   rw [show Lib.bitLen 0 = 0 by decide +kernel]; omega
theorem and18 (m e : Nat) (hm : m < 262144) (he : e < 64) : bits .and .u64 ((e * 262144 + m : Nat) : Int) 262143 = (m : Int) := by
 rw [show (262143 : Int) = ((262143 : Nat) : Int) from rfl, bits_and_u64_nat _ _ (by omega) (by omega)]
 have h3 : (262143 : Nat) = 2 ^ 18 - 1 := by decide
 rw [h3, Nat.and_two_pow_sub_one_eq_mod]
 congr 1
 simp only [Nat.reducePow]
 omega

set_option maxRecDepth 4000 in
set_option maxHeartbeats 400000 in
theorem rate_ok (g q m e : Nat) (tl : List UInt8) (w : World) (hm : m < 262144) (he : e < 64) (hr : m * 2 ^ e < 9223372036854775808) (h : Rdr w g q (beb 3 (e * 262144 + m) ++ tl)) :
 Calls Tryz.prog 129 #[.pointer (some ⟨g, 0, none⟩)] w fun r w' => r = .returned (.int .u64 ((m * 2 ^ e : Nat) : Int)) ∧ Rdr w' g q tl ∧ Only g w w' := by
 have HN : Hid (Calls Tryz.prog 117 #[.pointer (some ⟨g, 0, none⟩), .int .i64 3] w fun r w' => r = .returned (.int .u64 ((e * 262144 + m : Nat) : Int)) ∧ Rdr w' g q tl ∧ Only g w w') := Lib.hid (numberB g q 3 (e * 262144 + m) tl w (by omega) (by omega) (by simp only [Nat.reducePow]; omega) h)
 have HL : Hid (∀ W, Calls Tryz.prog 89 #[.int .u64 (m : Int)] W fun r w' => r = .returned (.int .i64 (Lib.bitLen m : Int)) ∧ W = w') := Lib.hid fun W => len64_any m W (by omega)
 have HT : Hid (∀ W, Calls Tryz.prog 89 #[.int .u64 9223372036854775808] W fun r w' => r = .returned (.int .i64 64) ∧ W = w') := Lib.hid fun W => by
  have := len64_any 9223372036854775808 W (by omega)
  rw [show Lib.bitLen 9223372036854775808 = 64 by decide +kernel] at this
  exact this
 have hf := rate_fit m e hm he hr
 have ha := and18 m e hm he
 obtain ⟨x, hx⟩ : ∃ x : Int, x = ((e * 262144 + m : Nat) : Int) := ⟨_, rfl⟩
 rw [← hx] at HN ha
 have e1 : x / 262144 = (e : Int) := by omega
 have e2 : IntKind.i64.wrap (e : Int) = (e : Int) := by rw [IntKind.wrap_i64]; omega
 obtain ⟨L, hL⟩ : ∃ L, L = Lib.bitLen m := ⟨_, rfl⟩
 rw [← hL] at HL hf
 have e3 : IntKind.i64.wrap ((e : Int) + (L : Int)) = (e : Int) + (L : Int) := by rw [IntKind.wrap_i64]; omega
 have e4 : ¬ (64 ≤ (e : Int) + (L : Int)) := by omega
 obtain ⟨R, hR⟩ : ∃ R, R = m * 2 ^ e := ⟨_, rfl⟩
 have hcast : (m : Int) * 2 ^ e = (R : Int) := by rw [hR]; simp
 rw [← hR] at hr ⊢
 have e5 : IntKind.u64.wrap ((m : Int) * 2 ^ e) = (R : Int) := by rw [hcast, IntKind.wrap_u64]; omega
 have hsh : Op.shift .shl .u64 (m : Int) .i64 (e : Int) = pure (.int .u64 (R : Int)) := by
  have h0 : ¬ ((e : Int) < 0) := by omega
  unfold Op.shift
  rw [if_neg h0]
  simp only [Int.toNat_natCast, IntKind.bits]
  rw [Nat.min_eq_left (by omega), e5]
 have HH := Lib.hid h
 clear h hr hm hL hR hx hf hcast
 go_enter Tryz.func129, Tryz.ntmps129
 go_wp2_with (first
  | (go_at_call 117; ((with_reducible refine (Hid.out HN).mono ?_); rintro r w1 ⟨rfl, hr1, ho1⟩; have R1 := Lib.hid (And.intro hr1 ho1); clear hr1 ho1))
  | (go_at_call 89; ((with_reducible refine (Hid.out HL _).mono ?_); rintro r wx ⟨rfl, rfl⟩))
  | (go_at_call 89; ((with_reducible refine (Hid.out HT _).mono ?_); rintro r wx ⟨rfl, rfl⟩))
  | (go_at_call 41; ((with_reducible refine (refuse_no _ _ _ ?_).mono ?_); (first | rfl | (simp; omega)); rintro r wx ⟨rfl, rfl⟩)))
 go_ret
 exact ⟨rfl, R1.out.1, R1.out.2⟩

set_option maxRecDepth 4000 in
set_option maxHeartbeats 400000 in
theorem los_toEnd (g q n : Nat) (L : List (Nat × Nat)) (w : World) (hn : L.length = n) (h1 : 1 ≤ n) (h16 : n ≤ 16) (hL : ∀ x ∈ L, x.1 < 65536 ∧ x.2 < 65536) (h : Rdr w g q (L.flatMap lossB)) :
 Calls Tryz.prog 123 #[.pointer (some ⟨g, 0, none⟩), .int .i64 4, .func (.func 124) #[.pointer (some ⟨g, 0, none⟩)] #[]] w fun r w' => ∃ A c, r = .returned (.slice A n c) ∧ w'.ownsRow w.heap.size 104 2 (.slice A n c) n (L.flatMap cLos) ∧ Rdr w' g q [] ∧ w.grownBy w' (some g) := by
 have HL := Lib.hid (los_list g q n L [] w hn h16 hL (by rw [List.append_nil]; exact h))
 obtain ⟨A0, n0, c0, hB, hR, hLo⟩ := h
 have hlen := hR.len
 rw [flat_len lossB 4 lossB_len, hn] at hlen
 have hc := hB.cell 1
 simp only [List.getElem?_cons_succ, List.getElem?_cons_zero] at hc
 have e1 : Int.tdiv (n0 : Int) 4 = (n : Int) := by rw [Int.tdiv_eq_ediv_of_nonneg (by omega)]; omega
 have e1b : (n0 : Int) / 4 = (n : Int) := by omega
 have e2 : IntKind.i64.wrap (n : Int) = (n : Int) := by rw [IntKind.wrap_i64]; omega
 have e3 : ¬ (n : Int) = 0 := by omega
 have hs := hR.small
 clear hB hR hLo hlen hn
 go_enter Tryz.func123, Tryz.ntmps123
 go_wp2_with (first
  | (go_at_call 41; ((with_reducible refine (refuse_no _ _ _ ?_).mono ?_); (first | rfl | (simp; omega)); rintro r wx ⟨rfl, rfl⟩))
  | (go_at_call 139; ((with_reducible refine (Hid.out HL).mono ?_); rintro r w1 ⟨A1, c1, rfl, hr1⟩; have R1 := Lib.hid hr1; clear hr1)))
 go_ret
 exact ⟨A1, c1, rfl, R1.out⟩

set_option maxRecDepth 4000 in
set_option maxHeartbeats 400000 in
theorem fir_toEnd (g q n : Nat) (L : List (Nat × Nat)) (w : World) (hn : L.length = n) (h1 : 1 ≤ n) (h16 : n ≤ 16) (hL : ∀ x ∈ L, x.1 < 4294967296 ∧ x.2 < 256) (h : Rdr w g q (L.flatMap firB)) :
 Calls Tryz.prog 126 #[.pointer (some ⟨g, 0, none⟩), .int .i64 8, .func (.func 127) #[.pointer (some ⟨g, 0, none⟩)] #[]] w fun r w' => ∃ A c, r = .returned (.slice A n c) ∧ w'.ownsRow w.heap.size 106 2 (.slice A n c) n (L.flatMap cFir) ∧ Rdr w' g q [] ∧ w.grownBy w' (some g) := by
 have HL := Lib.hid (fir_list g q n L [] w hn h16 hL (by rw [List.append_nil]; exact h))
 obtain ⟨A0, n0, c0, hB, hR, hLo⟩ := h
 have hlen := hR.len
 rw [flat_len firB 8 firB_len, hn] at hlen
 have hc := hB.cell 1
 simp only [List.getElem?_cons_succ, List.getElem?_cons_zero] at hc
 have e1 : Int.tdiv (n0 : Int) 8 = (n : Int) := by rw [Int.tdiv_eq_ediv_of_nonneg (by omega)]; omega
 have e1b : (n0 : Int) / 8 = (n : Int) := by omega
 have e2 : IntKind.i64.wrap (n : Int) = (n : Int) := by rw [IntKind.wrap_i64]; omega
 have e3 : ¬ (n : Int) = 0 := by omega
 have hs := hR.small
 clear hB hR hLo hlen hn
 go_enter Tryz.func126, Tryz.ntmps126
 go_wp2_with (first
  | (go_at_call 41; ((with_reducible refine (refuse_no _ _ _ ?_).mono ?_); (first | rfl | (simp; omega)); rintro r wx ⟨rfl, rfl⟩))
  | (go_at_call 140; ((with_reducible refine (Hid.out HL).mono ?_); rintro r w1 ⟨A1, c1, rfl, hr1⟩; have R1 := Lib.hid hr1; clear hr1)))
 go_ret
 exact ⟨A1, c1, rfl, R1.out⟩

set_option maxRecDepth 100000 in
set_option maxHeartbeats 1000000 in
theorem pli_any (g q : Nat) (so me : Nat) (w : World) (hso : so < 4294967296) (hme : me < 4294967296) (h : Rdr w g q (bPL so me)) :
 Calls Tryz.prog 103 #[.pointer (some ⟨g, 0, none⟩)] w fun r w' => ∃ cs, r = .returned (.agg cs.toArray) ∧ OwnC w' w.heap.size cs (mkPL 0 so me) ∧ Rdr w' g q [] ∧ w.grownBy w' (some g) := by
 have hz := zeroCtl
 have S0 := Lib.hid (StG.start h 58 zCtl #[.int .i64 0, .int .u32 0, .int .u32 0, .int .u64 0, .int .u32 0, .int .u32 0, .int .u32 0, .slice none 0 0, .slice none 0 0, .slice none 0 0, .slice none 0 0, .slice none 0 0, .int .u64 0] rfl)
 simp only [bPL] at S0
 rw [← List.append_nil (beb 4 me)] at S0
 clear h
 go_enter Tryz.func103, Tryz.ntmps103
 go_wp2_with (first
  | (go_at_call 116; ((with_reducible refine (wordS hso S0.out).mono ?_); rintro r w1 ⟨rfl, hs⟩; have S1 := Lib.hid hs; clear hs))
  | (go_at_call 116; ((with_reducible refine (wordS hme S1.out).mono ?_); rintro r w2 ⟨rfl, hs⟩; have S2 := Lib.hid hs; clear hs))
  | ((refine wpList_st rfl 58 (.tmp 2) (.tmp 7) rfl w.heap.size 0 (ctlC 0 so me 0 0 0 0 (.slice none 0 0) (.slice none 0 0) (.slice none 0 0) (.slice none 0 0) (.slice none 0 0) 0) rfl (by with_unfolding_all rfl) 58 zCtl S2.out.cell (Nat.le_refl 13) (rowCtl rfl) (ctlC_one _ _ _ _ _ _ _ _ _ _ _ _ _ _ _ _ _ _ _ _ _ _ _) ?_); intro w9 hB9 ho9; rw [splice_all _ _ (by rfl)] at hB9))
 refine ret_row rfl rfl hB9 (rowCtl rfl) rfl ?_
 have hov := S2.out.over ho9
 exact ⟨_, rfl, ⟨none, 0, none, 0, none, 0, none, 0, none, 0, rfl, nilN _ _ _ _, nilN _ _ _ _, nilN _ _ _ _, nilN _ _ _ _, nilN _ _ _ _⟩, hov.1, hov.2⟩

set_option maxRecDepth 100000 in
set_option maxHeartbeats 1000000 in
theorem nack_any (g q n : Nat) (so me : Nat) (L : List (Nat × Nat)) (w : World) (hso : so < 4294967296) (hme : me < 4294967296) (hn : L.length = n) (h1 : 1 ≤ n) (h16 : n ≤ 16) (hL : ∀ x ∈ L, x.1 < 65536 ∧ x.2 < 65536) (h : Rdr w g q (bNA so me L)) :
 Calls Tryz.prog 102 #[.pointer (some ⟨g, 0, none⟩)] w fun r w' => ∃ cs, r = .returned (.agg cs.toArray) ∧ OwnC w' w.heap.size cs (mkNA 0 so me L) ∧ Rdr w' g q [] ∧ w.grownBy w' (some g) := by
 have hz := zeroCtl
 have S0 := Lib.hid (StG.start h 58 zCtl #[.int .i64 0, .int .u32 0, .int .u32 0, .int .u64 0, .int .u32 0, .int .u32 0, .int .u32 0, .slice none 0 0, .slice none 0 0, .slice none 0 0, .slice none 0 0, .slice none 0 0, .int .u64 0] rfl)
 simp only [bNA] at S0
 clear h
 go_enter Tryz.func102, Tryz.ntmps102
 go_wp2_with (first
  | (go_at_call 116; ((with_reducible refine (wordS hso S0.out).mono ?_); rintro r w1 ⟨rfl, hs⟩; have S1 := Lib.hid hs; clear hs))
  | (go_at_call 116; ((with_reducible refine (wordS hme S1.out).mono ?_); rintro r w2 ⟨rfl, hs⟩; have S2 := Lib.hid hs; have D2 := Lib.hid hs.rdr; clear hs))
  | (go_at_call 123; ((with_reducible refine (los_toEnd g q n L _ hn h1 h16 hL D2.out).mono ?_); rintro r w3 ⟨AL, cL, rfl, hown, hr, hg⟩; have S3 := Lib.hid (S2.out.grow hr hg); have HO := Lib.hid (own_moN hown S2.out.sz); clear hown hr hg))
  | ((refine wpList_st rfl 58 (.tmp 2) (.tmp 11) rfl w.heap.size 0 (ctlC 0 so me 0 0 0 0 (.slice none 0 0) (.slice none 0 0) (.slice none 0 0) (.slice AL n cL) (.slice none 0 0) 0) rfl (by with_unfolding_all rfl) 58 zCtl S3.out.cell (Nat.le_refl 13) (rowCtl rfl) (ctlC_one _ _ _ _ _ _ _ _ _ _ _ _ _ _ _ _ _ _ _ _ _ _ _) ?_); intro w9 hB9 ho9; rw [splice_all _ _ (by rfl)] at hB9))
 refine ret_row rfl rfl hB9 (rowCtl rfl) rfl ?_
 have hov := S3.out.over ho9
 exact ⟨_, rfl, ⟨none, 0, none, 0, none, 0, AL, cL, none, 0, by rw [show (mkNA 0 so me L).loss.length = n from hn]; rfl, nilN _ _ _ _, nilN _ _ _ _, nilN _ _ _ _, (by show w9.ownsRow _ _ _ (.slice AL L.length cL) L.length _; rw [hn]; exact own_thN HO.out ho9.grown (fun p hp => .inr ⟨_, _, _, by injection hp with hp; subst hp; exact S3.out.cell, by decide⟩)), nilN _ _ _ _⟩, hov.1, hov.2⟩

set_option maxRecDepth 100000 in
set_option maxHeartbeats 1000000 in
theorem names_any (g q n : Nat) (L : List (Nat × List UInt8)) (w : World) (hq : n = q) (hn : L.length = n) (h16 : n ≤ 16) (hL : ∀ x ∈ L, x.1 < 4294967296 ∧ nameP (txt x.2)) (h : Rdr w g q (bSD L)) :
 Calls Tryz.prog 100 #[.pointer (some ⟨g, 0, none⟩)] w fun r w' => ∃ cs, r = .returned (.agg cs.toArray) ∧ OwnC w' w.heap.size cs (mkSD 0 L) ∧ Rdr w' g q [] ∧ w.grownBy w' (some g) := by
 have hz := zeroCtl
 subst hq
 have S0 := Lib.hid (StG.start h 58 zCtl #[.int .i64 0, .int .u32 0, .int .u32 0, .int .u64 0, .int .u32 0, .int .u32 0, .int .u32 0, .slice none 0 0, .slice none 0 0, .slice none 0 0, .slice none 0 0, .slice none 0 0, .int .u64 0] rfl)
 simp only [bSD] at S0
 rw [← List.append_nil (L.flatMap namB)] at S0
 have D0 := Lib.hid S0.out.rdr
 have cn := S0.out.cnt
 clear h
 go_enter Tryz.func100, Tryz.ntmps100
 go_wp2_with (first
  | (go_at_call 120; ((with_reducible refine (nam_list g n n L [] _ hn h16 hL D0.out).mono ?_); rintro r w1 ⟨AL, cL, rfl, hown, hr, hg⟩; have S1 := Lib.hid (S0.out.grow hr hg); have HO := Lib.hid (own_moN hown S0.out.sz); clear hown hr hg))
  | ((refine wpList_st rfl 58 (.tmp 2) (.tmp 10) rfl w.heap.size 0 (ctlC 0 0 0 0 0 0 0 (.slice none 0 0) (.slice AL n cL) (.slice none 0 0) (.slice none 0 0) (.slice none 0 0) 0) rfl (by with_unfolding_all rfl) 58 zCtl S1.out.cell (Nat.le_refl 13) (rowCtl rfl) (ctlC_one _ _ _ _ _ _ _ _ _ _ _ _ _ _ _ _ _ _ _ _ _ _ _) ?_); intro w9 hB9 ho9; rw [splice_all _ _ (by rfl)] at hB9))
 refine ret_row rfl rfl hB9 (rowCtl rfl) rfl ?_
 have hov := S1.out.over ho9
 exact ⟨_, rfl, ⟨none, 0, AL, cL, none, 0, none, 0, none, 0, by rw [show (mkSD 0 L).nams.length = n from hn]; rfl, nilN _ _ _ _, (by show w9.ownsRow _ _ _ (.slice AL L.length cL) L.length _; rw [hn]; exact own_thN HO.out ho9.grown (fun p hp => .inr ⟨_, _, _, by injection hp with hp; subst hp; exact S1.out.cell, by decide⟩)), nilN _ _ _ _, nilN _ _ _ _, nilN _ _ _ _⟩, hov.1, hov.2⟩

set_option maxRecDepth 100000 in
set_option maxHeartbeats 1000000 in
theorem bye_any (g q n : Nat) (L : List Nat) (w : World) (hq : n = q) (hn : L.length = n) (h16 : n ≤ 16) (hL : ∀ x ∈ L, x < 4294967296) (h : Rdr w g q (bBY L)) :
 Calls Tryz.prog 101 #[.pointer (some ⟨g, 0, none⟩)] w fun r w' => ∃ cs, r = .returned (.agg cs.toArray) ∧ OwnC w' w.heap.size cs (mkBY 0 L) ∧ Rdr w' g q [] ∧ w.grownBy w' (some g) := by
 have hz := zeroCtl
 subst hq
 have S0 := Lib.hid (StG.start h 58 zCtl #[.int .i64 0, .int .u32 0, .int .u32 0, .int .u64 0, .int .u32 0, .int .u32 0, .int .u32 0, .slice none 0 0, .slice none 0 0, .slice none 0 0, .slice none 0 0, .slice none 0 0, .int .u64 0] rfl)
 simp only [bBY] at S0
 rw [← List.append_nil (L.flatMap (beb 4))] at S0
 have D0 := Lib.hid S0.out.rdr
 have cn := S0.out.cnt
 clear h
 go_enter Tryz.func101, Tryz.ntmps101
 go_wp2_with (first
  | (go_at_call 122; ((with_reducible refine (src_list g n n L [] _ hn h16 hL D0.out).mono ?_); rintro r w1 ⟨AL, cL, rfl, hown, hr, hg⟩; have S1 := Lib.hid (S0.out.grow hr hg); have HO := Lib.hid (own_moN hown S0.out.sz); clear hown hr hg))
  | ((refine wpList_st rfl 58 (.tmp 2) (.tmp 10) rfl w.heap.size 0 (ctlC 0 0 0 0 0 0 0 (.slice none 0 0) (.slice none 0 0) (.slice AL n cL) (.slice none 0 0) (.slice none 0 0) 0) rfl (by with_unfolding_all rfl) 58 zCtl S1.out.cell (Nat.le_refl 13) (rowCtl rfl) (ctlC_one _ _ _ _ _ _ _ _ _ _ _ _ _ _ _ _ _ _ _ _ _ _ _) ?_); intro w9 hB9 ho9; rw [splice_all _ _ (by rfl)] at hB9))
 refine ret_row rfl rfl hB9 (rowCtl rfl) rfl ?_
 have hov := S1.out.over ho9
 exact ⟨_, rfl, ⟨none, 0, none, 0, AL, cL, none, 0, none, 0, by rw [show (mkBY 0 L).srcs.length = n from hn]; rfl, nilN _ _ _ _, nilN _ _ _ _, (by show w9.ownsRow _ _ _ (.slice AL L.length cL) L.length _; rw [hn]; exact own_thN HO.out ho9.grown (fun p hp => .inr ⟨_, _, _, by injection hp with hp; subst hp; exact S1.out.cell, by decide⟩)), nilN _ _ _ _, nilN _ _ _ _⟩, hov.1, hov.2⟩
theorem StG.far {w0 w w' : World} {g q p : Nat} {e : TypeId} {z : List Value} {bs : List UInt8} (h : StG w0 g q e z bs w) (ho : Only p w w') (hp : w0.heap.size < p) : StG w0 g q e z bs w' :=
 ⟨h.1, h.2.1.grown ho.grown (fun k hk => by injection hk with hk; have := h.1; omega), grown_then h.2.2.1 ho.grown (fun k hk => .inl (by injection hk with hk; omega)), h.2.2.2.only ho (by omega)⟩
theorem StG.ltg {w0 w : World} {g q : Nat} {e : TypeId} {z : List Value} {bs : List UInt8} (h : StG w0 g q e z bs w) : g < w0.heap.size := h.1
theorem numberI (g q m x : Nat) (tl : List UInt8) (w : World) (mi : Int) (hmi : mi = m) (h1 : 1 ≤ m) (h8 : m ≤ 8) (hx : x < 256 ^ m) (h : Rdr w g q (beb m x ++ tl)) :
 Calls Tryz.prog 117 #[.pointer (some ⟨g, 0, none⟩), .int .i64 mi] w fun e w' => e = .returned (.int .u64 (x : Int)) ∧ Rdr w' g q tl ∧ Only g w w' := by
 subst hmi; exact numberB g q m x tl w h1 h8 hx h
set_option maxRecDepth 100000 in
set_option maxHeartbeats 1000000 in
theorem fir_any (g q n : Nat) (so : Nat) (L : List (Nat × Nat)) (w : World) (hso : so < 4294967296) (hn : L.length = n) (h1 : 1 ≤ n) (h16 : n ≤ 16) (hL : ∀ x ∈ L, x.1 < 4294967296 ∧ x.2 < 256) (h : Rdr w g q (bFI so L)) :
 Calls Tryz.prog 104 #[.pointer (some ⟨g, 0, none⟩)] w fun r w' => ∃ cs, r = .returned (.agg cs.toArray) ∧ OwnC w' w.heap.size cs (mkFI 0 so L) ∧ Rdr w' g q [] ∧ w.grownBy w' (some g) := by
 have hz := zeroCtl
 have S0 := Lib.hid (StG.start h 58 zCtl #[.int .i64 0, .int .u32 0, .int .u32 0, .int .u64 0, .int .u32 0, .int .u32 0, .int .u32 0, .slice none 0 0, .slice none 0 0, .slice none 0 0, .slice none 0 0, .slice none 0 0, .int .u64 0] rfl)
 simp only [bFI, beb_zero] at S0
 clear h
 go_enter Tryz.func104, Tryz.ntmps104
 go_wp2_with (first
  | (go_at_call 116; ((with_reducible refine (wordS hso S0.out).mono ?_); rintro r w1 ⟨rfl, hs⟩; have S1 := Lib.hid hs; have hw1 : w.heap.size < w1.heap.size := hs.cell.lt; have hgp : w1.heap.size ≠ g := Nat.ne_of_gt (Nat.lt_trans hs.ltg hw1); have S2 := Lib.hid (hs.below ((Below.refl _ _).alloc (Nat.le_refl _) (.cells #[.int .i64 0, .int .u32 (so : Int), .int .u32 0, .int .u64 0, .int .u32 0, .int .u32 0, .int .u32 0, .slice none 0 0, .slice none 0 0, .slice none 0 0, .slice none 0 0, .slice none 0 0, .int .u64 0] 58))); have B2 : Hid (BlkV (w1.alloc (.cells #[.int .i64 0, .int .u32 (so : Int), .int .u32 0, .int .u64 0, .int .u32 0, .int .u32 0, .int .u32 0, .slice none 0 0, .slice none 0 0, .slice none 0 0, .slice none 0 0, .slice none 0 0, .int .u64 0] 58)) w1.heap.size 58 (ctlC 0 so 0 0 0 0 0 (.slice none 0 0) (.slice none 0 0) (.slice none 0 0) (.slice none 0 0) (.slice none 0 0) 0)) := Lib.hid (BlkV.new_at _ _ _ _ _ rfl rfl); have D2 := Lib.hid S2.out.rdr; clear hs))
  | (go_at_call 125; ((with_reducible refine (zerosI g q 4 _ _ _ (by omega) D2.out).mono ?_); rintro r w3 ⟨rfl, hr, ho⟩; have S3 := Lib.hid (S2.out.only hr ho); have B3 := Lib.hid (B2.out.only ho hgp); have D3 := Lib.hid S3.out.rdr; clear hr ho))
  | (go_at_call 126; ((with_reducible refine (fir_toEnd g q n L _ hn h1 h16 hL D3.out).mono ?_); rintro r w4 ⟨AL, cL, rfl, hown, hr, hg⟩; have S4 := Lib.hid (S3.out.grow hr hg); have B4 := Lib.hid (B3.out.grown hg (by intro e; injection e with e; exact hgp e)); have HO := Lib.hid (own_moN hown S3.out.sz); have cz : w4.cell? ⟨w1.heap.size, 11, none⟩ = some (.slice none 0 0) := (B4.out.cell 11).trans rfl; have cf := B4.out.frozen 11; have B5 := Lib.hid (B4.out.set_ 11 (.slice AL n cL)); have R5 : Hid ((w4.setCell ⟨w1.heap.size, 11, none⟩ (.slice AL n cL)).rangeAt w1.heap.size 0 (ctlC 0 so 0 0 0 0 0 (.slice none 0 0) (.slice none 0 0) (.slice none 0 0) (.slice none 0 0) (.slice AL n cL) 0)) := Lib.hid (B5.out.range 0 _ (fun i _ => by rw [Nat.zero_add]; rfl)); have ho5 := Only.set w4 w1.heap.size 11 (.slice AL n cL); have S5 := Lib.hid (S4.out.far ho5 hw1); have H5 := Lib.hid (own_thN HO.out ho5.grown (fun p hp => .inr ⟨_, _, _, by injection hp with hp; subst hp; exact B4.out, by decide⟩)); clear hown hr hg ho5))
  | (with_reducible refine wpList_ld rfl 58 (.tmp 3) rfl w1.heap.size 0 rfl (ctlC 0 so 0 0 0 0 0 (.slice none 0 0) (.slice none 0 0) (.slice none 0 0) (.slice none 0 0) (.slice AL n cL) 0) R5.out (rowCtl rfl) ?_)
  | ((refine wpList_st rfl 58 (.tmp 2) (.tmp 14) rfl w.heap.size 0 (ctlC 0 so 0 0 0 0 0 (.slice none 0 0) (.slice none 0 0) (.slice none 0 0) (.slice none 0 0) (.slice AL n cL) 0) rfl rfl 58 zCtl S5.out.cell (Nat.le_refl 13) (rowCtl rfl) (ctlC_one _ _ _ _ _ _ _ _ _ _ _ _ _ _ _ _ _ _ _ _ _ _ _) ?_); intro w9 hB9 ho9; rw [splice_all _ _ (by rfl)] at hB9))
 refine ret_row rfl rfl hB9 (rowCtl rfl) rfl ?_
 have hov := S5.out.over ho9
 exact ⟨_, rfl, ⟨none, 0, none, 0, none, 0, none, 0, AL, cL, by rw [show (mkFI 0 so L).firs.length = n from hn]; rfl, nilN _ _ _ _, nilN _ _ _ _, nilN _ _ _ _, nilN _ _ _ _, (by show w9.ownsRow _ _ _ (.slice AL L.length cL) L.length _; rw [hn]; exact own_thN H5.out ho9.grown (fun p hp => .inr ⟨_, _, _, by injection hp with hp; subst hp; exact S5.out.cell, by decide⟩))⟩, hov.1, hov.2⟩

set_option maxRecDepth 100000 in
set_option maxHeartbeats 1000000 in
theorem remb_any (g q n : Nat) (so m e R : Nat) (L : List Nat) (w : World) (hso : so < 4294967296) (hn : L.length = n) (h16 : n ≤ 16) (hL : ∀ x ∈ L, x < 4294967296) (hm : m < 262144) (he : e < 64) (hR : R = m * 2 ^ e) (hr : m * 2 ^ e < 9223372036854775808) (h : Rdr w g q (bRE so L m e)) :
 Calls Tryz.prog 105 #[.pointer (some ⟨g, 0, none⟩)] w fun r w' => ∃ cs, r = .returned (.agg cs.toArray) ∧ OwnC w' w.heap.size cs (mkRE 0 so L R) ∧ Rdr w' g q [] ∧ w.grownBy w' (some g) := by
 have hz := zeroCtl
 have S0 := Lib.hid (StG.start h 58 zCtl #[.int .i64 0, .int .u32 0, .int .u32 0, .int .u64 0, .int .u32 0, .int .u32 0, .int .u32 0, .slice none 0 0, .slice none 0 0, .slice none 0 0, .slice none 0 0, .slice none 0 0, .int .u64 0] rfl)
 simp only [bRE, beb_zero] at S0
 rw [hn, ← List.append_nil (L.flatMap (beb 4))] at S0
 have e1 : IntKind.i64.wrap (n : Int) = (n : Int) := by rw [IntKind.wrap_i64]; omega
 have l1 : n < 256 ^ 1 := by omega
 have HRt : Hid (∀ W tl, Rdr W g q (beb 3 (e * 262144 + m) ++ tl) → Calls Tryz.prog 129 #[.pointer (some ⟨g, 0, none⟩)] W fun r w' => r = .returned (.int .u64 (R : Int)) ∧ Rdr w' g q tl ∧ Only g W w') := Lib.hid fun W tl hW => by
  have := rate_ok g q m e tl W hm he hr hW
  rw [← hR] at this
  exact this
 clear h hr hR hm he
 go_enter Tryz.func105, Tryz.ntmps105
 go_wp2_with (first
  | (go_at_call 116; ((with_reducible refine (wordS hso S0.out).mono ?_); rintro r w1 ⟨rfl, hs⟩; have S1 := Lib.hid hs; have hw1 : w.heap.size < w1.heap.size := hs.cell.lt; have hgp : w1.heap.size ≠ g := Nat.ne_of_gt (Nat.lt_trans hs.ltg hw1); have S2 := Lib.hid (hs.below ((Below.refl _ _).alloc (Nat.le_refl _) (.cells #[.int .i64 0, .int .u32 (so : Int), .int .u32 0, .int .u64 0, .int .u32 0, .int .u32 0, .int .u32 0, .slice none 0 0, .slice none 0 0, .slice none 0 0, .slice none 0 0, .slice none 0 0, .int .u64 0] 58))); have B2 : Hid (BlkV (w1.alloc (.cells #[.int .i64 0, .int .u32 (so : Int), .int .u32 0, .int .u64 0, .int .u32 0, .int .u32 0, .int .u32 0, .slice none 0 0, .slice none 0 0, .slice none 0 0, .slice none 0 0, .slice none 0 0, .int .u64 0] 58)) w1.heap.size 58 (ctlC 0 so 0 0 0 0 0 (.slice none 0 0) (.slice none 0 0) (.slice none 0 0) (.slice none 0 0) (.slice none 0 0) 0)) := Lib.hid (BlkV.new_at _ _ _ _ _ rfl rfl); have D2 := Lib.hid S2.out.rdr; clear hs))
  | (go_at_call 125; ((with_reducible refine (zerosI g q 4 _ _ _ (by omega) D2.out).mono ?_); rintro r w3 ⟨rfl, hr, ho⟩; have S3 := Lib.hid (S2.out.only hr ho); have B3 := Lib.hid (B2.out.only ho hgp); have D3 := Lib.hid S3.out.rdr; clear hr ho))
  | (go_at_call 128; ((with_reducible refine (bytesB g q letB _ _ D3.out _ (by decide)).mono ?_); rintro r w4 ⟨A4, c4, rfl, hr4, hs, _, ho⟩; have S4 := Lib.hid (S3.out.only hs ho); have B4 := Lib.hid (B3.out.only ho hgp); have v1 : (convert 32 9 (.slice A4 letB.length c4)).run Tryz.prog w4 = .ok (.string { data := #[82, 69, 77, 66] }) w4 := run_conv hr4 32 9 5 Tryz.underlying32 Tryz.underlying5 Tryz.underlying9; have D4 := Lib.hid S4.out.rdr; clear hs hr4 ho))
  | (go_at_call 41; ((with_reducible refine (refuse_no _ _ _ ?_).mono ?_) ; (first | rfl | simp); rintro r wx ⟨rfl, rfl⟩))
  | (go_at_call 117; ((with_reducible refine (numberI g q 1 n _ _ _ (by omega) (by omega) (by omega) l1 D4.out).mono ?_); rintro r w5 ⟨rfl, hs, ho⟩; have S5 := Lib.hid (S4.out.only hs ho); have B5 := Lib.hid (B4.out.only ho hgp); have D5 := Lib.hid S5.out.rdr; clear hs ho))
  | (go_at_call 129; ((with_reducible refine (Hid.out HRt _ _ D5.out).mono ?_); rintro r w6 ⟨rfl, hs, ho⟩; have S6 := Lib.hid (S5.out.only hs ho); have B6 := Lib.hid (B5.out.only ho hgp); have cz6 : w6.cell? ⟨w1.heap.size, 12, none⟩ = some (.int .u64 ((0 : Nat) : Int)) := (B6.out.cell 12).trans rfl; have cf6 := B6.out.frozen 12; have X6 := Lib.hid (B6.out.set_ 12 (.int .u64 (R : Int))); have T6 := Lib.hid (S6.out.far (Only.set w6 w1.heap.size 12 (.int .u64 (R : Int))) hw1); have D6 := Lib.hid T6.out.rdr; clear hs ho))
  | (go_at_call 122; ((with_reducible refine (src_list g q n L [] _ hn h16 hL D6.out).mono ?_); rintro r w7 ⟨AL, cL, rfl, hown, hr, hg⟩; have S7 := Lib.hid (T6.out.grow hr hg); have B7 := Lib.hid (X6.out.grown hg (by intro e; injection e with e; exact hgp e)); have HO := Lib.hid (own_moN hown T6.out.sz); have cz7 : w7.cell? ⟨w1.heap.size, 9, none⟩ = some (.slice none 0 0) := (B7.out.cell 9).trans rfl; have cf7 := B7.out.frozen 9; have B8 := Lib.hid (B7.out.set_ 9 (.slice AL n cL)); have R8 : Hid ((w7.setCell ⟨w1.heap.size, 9, none⟩ (.slice AL n cL)).rangeAt w1.heap.size 0 (ctlC 0 so 0 0 0 0 0 (.slice none 0 0) (.slice none 0 0) (.slice AL n cL) (.slice none 0 0) (.slice none 0 0) R)) := Lib.hid (B8.out.range 0 _ (fun i _ => by rw [Nat.zero_add]; rfl)); have ho8 := Only.set w7 w1.heap.size 9 (.slice AL n cL); have S8 := Lib.hid (S7.out.far ho8 hw1); have H8 := Lib.hid (own_thN HO.out ho8.grown (fun p hp => .inr ⟨_, _, _, by injection hp with hp; subst hp; exact B7.out, by decide⟩)); clear hown hr hg ho8))
  | (with_reducible refine wpList_ld rfl 58 (.tmp 3) rfl w1.heap.size 0 rfl (ctlC 0 so 0 0 0 0 0 (.slice none 0 0) (.slice none 0 0) (.slice AL n cL) (.slice none 0 0) (.slice none 0 0) R) R8.out (rowCtl rfl) ?_)
  | ((refine wpList_st rfl 58 (.tmp 2) (.tmp 26) rfl w.heap.size 0 (ctlC 0 so 0 0 0 0 0 (.slice none 0 0) (.slice none 0 0) (.slice AL n cL) (.slice none 0 0) (.slice none 0 0) R) rfl rfl 58 zCtl S8.out.cell (Nat.le_refl 13) (rowCtl rfl) (ctlC_one _ _ _ _ _ _ _ _ _ _ _ _ _ _ _ _ _ _ _ _ _ _ _) ?_); intro w9 hB9 ho9; rw [splice_all _ _ (by rfl)] at hB9))
 refine ret_row rfl rfl hB9 (rowCtl rfl) rfl ?_
 have hov := S8.out.over ho9
 exact ⟨_, rfl, ⟨none, 0, none, 0, AL, cL, none, 0, none, 0, by rw [show (mkRE 0 so L R).srcs.length = n from hn]; rfl, nilN _ _ _ _, nilN _ _ _ _, (by show w9.ownsRow _ _ _ (.slice AL L.length cL) L.length _; rw [hn]; exact own_thN H8.out ho9.grown (fun p hp => .inr ⟨_, _, _, by injection hp with hp; subst hp; exact S8.out.cell, by decide⟩)), nilN _ _ _ _, nilN _ _ _ _⟩, hov.1, hov.2⟩
end Go.Proofs.YtheefckohnaceaaGreatDoor

namespace Go.Proofs.YtheefckohnaceaaGreatDoor
open Go.RowKit Go.Maps Go.ChangeMaps Go.MapKept
set_option linter.unusedVariables false

theorem kInt : Keyed Tryz.prog 3 := int_keyed Tryz.underlying3
theorem mapTy : Tryz.prog.underlying 151 = some (.map 3 149) := Tryz.underlying151
theorem run_ins (w : World) (b : Nat) (es : Array MapEntry) (clock : Nat) (kk : Int) (v : Value) (hb : w.heap[b]? = some (.map es clock)) (hk : (Lit.int .i64 kk).wf = true) (hf : Instr.findNow (.int .i64) (.int .i64 kk) es.toList 0 = some none) :
 (Instr.mapUpdate 151 (.map (some b)) (.int .i64 kk) v).run Tryz.prog w = .ok () (setBlock w b (.map (es.push ⟨.int .i64 kk, v, clock⟩) (clock + 1))) := by
 simp [Instr.mapUpdate, run_underlying mapTy, MapKept.run_getObj_map hb, kInt.check w false (keyOf_int_mk Tryz.underlying3 hk), Instr.findKey, run_underlying Tryz.underlying3, hf, MapKept.run_setObj_map _ hb, Result.andThen, setBlock]
theorem run_lkp (w : World) (b : Nat) (es : Array MapEntry) (clock : Nat) (kk : Int) (i : Nat) (v : Value) (hb : w.heap[b]? = some (.map es clock)) (hk : (Lit.int .i64 kk).wf = true) (hf : Instr.findNow (.int .i64) (.int .i64 kk) es.toList 0 = some (some (i, v))) :
 (Instr.lookup 151 (.map (some b)) (.int .i64 kk) true).run Tryz.prog w = .ok (.tuple #[v, .bool true]) w := by
 simp [Instr.lookup, run_underlying mapTy, MapKept.run_getObj_map hb, kInt.check w _ (keyOf_int_mk Tryz.underlying3 hk), Instr.findKey, run_underlying Tryz.underlying3, hf, Result.andThen]
theorem wpList_ins {w : World} {ops : Array Oper} {rest : List Oper} {o : Oper} {a : Act} {Q : Exit → Act → World → Prop} (hgd : o.guard = none) (m x v : Operand) (ho : o.op = .insert 151 m x v)
 (b : Nat) (es : Array MapEntry) (clock : Nat) (hm : a.eval m = .map (some b)) (kk : Int) (hx : a.eval x = .int .i64 kk) (u : Value) (hu : a.eval v = u) (hb : w.heap[b]? = some (.map es clock)) (hk : (Lit.int .i64 kk).wf = true) (hf : Instr.findNow (.int .i64) (.int .i64 kk) es.toList 0 = some none)
 (h : ∀ w', w'.heap[b]? = some (.map (es.push ⟨.int .i64 kk, u, clock⟩) (clock + 1)) → w.grownBy w' (some b) → wpList Tryz.prog ops Q rest (a.put o.dst undef) w') : wpList Tryz.prog ops Q (o :: rest) a w := by
 refine wpList_plain hgd fun K' hK' => ?_
 unfold Oper.wp
 simp [execOp, ho, hm, hx, hu, run_ins w b es clock kk u hb hk hf, Result.andThen]
 exact hK' _ _ (h _ (heap_setBlock_same hb _) ⟨rfl, rfl, rfl, by simp [setBlock], fun i _ hi => heap_setBlock_other hb _ (fun e => hi (by rw [e]))⟩)
def ent0 : Array MapEntry := #[]
def ent1 : Array MapEntry := #[⟨.int .i64 200, .func (.func 98) #[] #[], 0⟩]
def ent2 : Array MapEntry := #[⟨.int .i64 200, .func (.func 98) #[] #[], 0⟩, ⟨.int .i64 201, .func (.func 99) #[] #[], 1⟩]
def ent3 : Array MapEntry := #[⟨.int .i64 200, .func (.func 98) #[] #[], 0⟩, ⟨.int .i64 201, .func (.func 99) #[] #[], 1⟩, ⟨.int .i64 202, .func (.func 100) #[] #[], 2⟩]
def ent4 : Array MapEntry := #[⟨.int .i64 200, .func (.func 98) #[] #[], 0⟩, ⟨.int .i64 201, .func (.func 99) #[] #[], 1⟩, ⟨.int .i64 202, .func (.func 100) #[] #[], 2⟩, ⟨.int .i64 203, .func (.func 101) #[] #[], 3⟩]
def ent5 : Array MapEntry := #[⟨.int .i64 200, .func (.func 98) #[] #[], 0⟩, ⟨.int .i64 201, .func (.func 99) #[] #[], 1⟩, ⟨.int .i64 202, .func (.func 100) #[] #[], 2⟩, ⟨.int .i64 203, .func (.func 101) #[] #[], 3⟩, ⟨.int .i64 1, .func (.func 102) #[] #[], 4⟩]
def ent6 : Array MapEntry := #[⟨.int .i64 200, .func (.func 98) #[] #[], 0⟩, ⟨.int .i64 201, .func (.func 99) #[] #[], 1⟩, ⟨.int .i64 202, .func (.func 100) #[] #[], 2⟩, ⟨.int .i64 203, .func (.func 101) #[] #[], 3⟩, ⟨.int .i64 1, .func (.func 102) #[] #[], 4⟩, ⟨.int .i64 2, .func (.func 103) #[] #[], 5⟩]
def ent7 : Array MapEntry := #[⟨.int .i64 200, .func (.func 98) #[] #[], 0⟩, ⟨.int .i64 201, .func (.func 99) #[] #[], 1⟩, ⟨.int .i64 202, .func (.func 100) #[] #[], 2⟩, ⟨.int .i64 203, .func (.func 101) #[] #[], 3⟩, ⟨.int .i64 1, .func (.func 102) #[] #[], 4⟩, ⟨.int .i64 2, .func (.func 103) #[] #[], 5⟩, ⟨.int .i64 3, .func (.func 104) #[] #[], 6⟩]
def ent8 : Array MapEntry := #[⟨.int .i64 200, .func (.func 98) #[] #[], 0⟩, ⟨.int .i64 201, .func (.func 99) #[] #[], 1⟩, ⟨.int .i64 202, .func (.func 100) #[] #[], 2⟩, ⟨.int .i64 203, .func (.func 101) #[] #[], 3⟩, ⟨.int .i64 1, .func (.func 102) #[] #[], 4⟩, ⟨.int .i64 2, .func (.func 103) #[] #[], 5⟩, ⟨.int .i64 3, .func (.func 104) #[] #[], 6⟩, ⟨.int .i64 4, .func (.func 105) #[] #[], 7⟩]

set_option maxRecDepth 100000 in
set_option maxHeartbeats 1000000 in
theorem bodies_any (w : World) : Calls Tryz.prog 85 #[] w fun e w' => e = .returned (.map (some w.heap.size)) ∧ w'.heap[w.heap.size]? = some (.map ent8 8) ∧ Below w.heap.size w w' := by
 have hmm := @run_makeMap Tryz.prog
 have hm0 : (w.alloc (.map #[] 0)).heap[w.heap.size]? = some (.map ent0 0) := heap_alloc_new _ _
 have b0 : Hid (Below w.heap.size w (w.alloc (.map #[] 0))) := Lib.hid ((Below.refl _ _).alloc (Nat.le_refl _) _)
 go_enter Tryz.func85, Tryz.ntmps85
 go_wp2_with (first
  | ((with_reducible refine wpList_ins rfl (.tmp 1) (.const (.int .i64 200)) (.func 98) rfl w.heap.size ent0 0 rfl 200 rfl (.func (.func 98) #[] #[]) rfl ?_ rfl rfl ?_); exact hm0; intro w1 h1 g1; have b1 : Hid (Below w.heap.size w w1) := Lib.hid (b0.out.grown g1 (by simp) (fun q hq => by injection hq with hq; omega)); clear g1)
  | ((with_reducible refine wpList_ins rfl (.tmp 1) (.const (.int .i64 201)) (.func 99) rfl w.heap.size ent1 1 rfl 201 rfl (.func (.func 99) #[] #[]) rfl ?_ rfl rfl ?_); exact h1; intro w2 h2 g2; have b2 : Hid (Below w.heap.size w w2) := Lib.hid (b1.out.grown g2 b1.out.size (fun q hq => by injection hq with hq; omega)); clear g2)
  | ((with_reducible refine wpList_ins rfl (.tmp 1) (.const (.int .i64 202)) (.func 100) rfl w.heap.size ent2 2 rfl 202 rfl (.func (.func 100) #[] #[]) rfl ?_ rfl rfl ?_); exact h2; intro w3 h3 g3; have b3 : Hid (Below w.heap.size w w3) := Lib.hid (b2.out.grown g3 b2.out.size (fun q hq => by injection hq with hq; omega)); clear g3)
  | ((with_reducible refine wpList_ins rfl (.tmp 1) (.const (.int .i64 203)) (.func 101) rfl w.heap.size ent3 3 rfl 203 rfl (.func (.func 101) #[] #[]) rfl ?_ rfl rfl ?_); exact h3; intro w4 h4 g4; have b4 : Hid (Below w.heap.size w w4) := Lib.hid (b3.out.grown g4 b3.out.size (fun q hq => by injection hq with hq; omega)); clear g4)
  | ((with_reducible refine wpList_ins rfl (.tmp 1) (.const (.int .i64 1)) (.func 102) rfl w.heap.size ent4 4 rfl 1 rfl (.func (.func 102) #[] #[]) rfl ?_ rfl rfl ?_); exact h4; intro w5 h5 g5; have b5 : Hid (Below w.heap.size w w5) := Lib.hid (b4.out.grown g5 b4.out.size (fun q hq => by injection hq with hq; omega)); clear g5)
  | ((with_reducible refine wpList_ins rfl (.tmp 1) (.const (.int .i64 2)) (.func 103) rfl w.heap.size ent5 5 rfl 2 rfl (.func (.func 103) #[] #[]) rfl ?_ rfl rfl ?_); exact h5; intro w6 h6 g6; have b6 : Hid (Below w.heap.size w w6) := Lib.hid (b5.out.grown g6 b5.out.size (fun q hq => by injection hq with hq; omega)); clear g6)
  | ((with_reducible refine wpList_ins rfl (.tmp 1) (.const (.int .i64 3)) (.func 104) rfl w.heap.size ent6 6 rfl 3 rfl (.func (.func 104) #[] #[]) rfl ?_ rfl rfl ?_); exact h6; intro w7 h7 g7; have b7 : Hid (Below w.heap.size w w7) := Lib.hid (b6.out.grown g7 b6.out.size (fun q hq => by injection hq with hq; omega)); clear g7)
  | ((with_reducible refine wpList_ins rfl (.tmp 1) (.const (.int .i64 4)) (.func 105) rfl w.heap.size ent7 7 rfl 4 rfl (.func (.func 105) #[] #[]) rfl ?_ rfl rfl ?_); exact h7; intro w8 h8 g8; have b8 : Hid (Below w.heap.size w w8) := Lib.hid (b7.out.grown g8 b7.out.size (fun q hq => by injection hq with hq; omega)); clear g8))
 go_ret
 exact ⟨rfl, h8, b8.out⟩
end Go.Proofs.YtheefckohnaceaaGreatDoor

namespace Go.Proofs.YtheefckohnaceaaGreatDoor
open Go.RowKit
set_option linter.unusedVariables false

theorem size_ok (A : Option Addr) (n c m : Nat) (bs : List UInt8) (w : World) (hr : RdS w A n c bs) (hm : numb ((bs.drop 2).take 2) = m) (hn : 4 + 4 * m ≤ n) :
 Calls Tryz.prog 64 #[.slice A n c] w fun e w' => e = .returned (.int .i64 ((4 + 4 * m : Nat) : Int)) ∧ w = w' := by
 have HN : Hid (Calls Tryz.prog 56 #[.slice A n c, .int .i64 2, .int .i64 2] w fun e w' => e = .returned (.tuple #[.int .u64 (m : Int), .bool true]) ∧ w = w') := Lib.hid (by
  have := num_yes A n c bs 2 2 w hr (by omega) (by omega) (by omega)
  rw [hm] at this
  exact this)
 have hs := hr.small
 have e1 : IntKind.i64.wrap (m : Int) = (m : Int) := by rw [IntKind.wrap_i64]; omega
 have e2 : IntKind.i64.wrap (4 * (m : Int)) = 4 * (m : Int) := by rw [IntKind.wrap_i64]; omega
 have e3 : IntKind.i64.wrap (4 + 4 * (m : Int)) = 4 + 4 * (m : Int) := by rw [IntKind.wrap_i64]; omega
 have e4 : ¬ (n : Int) < 4 + 4 * (m : Int) := by omega
 clear hr hm
 go_enter Tryz.func64, Tryz.ntmps64
 go_wp2_with (first
  | (go_at_call 56; ((with_reducible refine (Hid.out HN).mono ?_); rintro e w2 ⟨rfl, rfl⟩))
  | (go_at_call 41; ((with_reducible refine (refuse_no _ _ _ ?_).mono ?_); (first | rfl | (simp; omega)); rintro e w' ⟨rfl, rfl⟩)))
 go_ret
 exact ⟨by simp, rfl⟩

def BodyIs (f : FuncId) (q : Nat) (body : List UInt8) (c : Ctl) : Prop := c.k = 0 ∧ ∀ g w, Rdr w g q body → Calls Tryz.prog f #[.pointer (some ⟨g, 0, none⟩)] w fun r w' => ∃ cs, r = .returned (.agg cs.toArray) ∧ OwnC w' w.heap.size cs c ∧ Rdr w' g q [] ∧ w.grownBy w' (some g)
theorem head_u8 (q : Nat) (h : q < 32) : ((128 + q : Nat) : Int) / 32 = 4 ∧ bits .and .u8 ((128 + q : Nat) : Int) 31 = (q : Int) := by
 refine ⟨by omega, ?_⟩
 have h2 : (128 + q) &&& 31 = q := by
  have h3 : (31 : Nat) = 2 ^ 5 - 1 := rfl
  rw [h3, Nat.and_two_pow_sub_one_eq_mod]; omega
 rw [show (31 : Int) = ((31 : Nat) : Int) from rfl, u8_and_nat _ _ (by omega) (by omega), h2]
theorem OwnC.kind {w : World} {b : Nat} {cs : List Value} {c : Ctl} (h : OwnC w b cs c) (k : Int) : OwnC w b (cs.set 0 (.int .i64 k)) { c with k := k } := by
 obtain ⟨A, a, B, b', C, c', D, d, E, e, h0, hh⟩ := h
 exact ⟨A, a, B, b', C, c', D, d, E, e, by rw [h0]; rfl, hh⟩
theorem OwnC.k0 {w : World} {b : Nat} {cs : List Value} {c : Ctl} (h : OwnC w b cs c) : cs[0]? = some (.int .i64 c.k) := by
 obtain ⟨A, a, B, b', C, c', D, d, E, e, h0, hh⟩ := h
 rw [h0]; rfl
theorem Rdr.none {w : World} {g q : Nat} (h : Rdr w g q []) : ∃ A c, w.cell? ⟨g, 1, none⟩ = some (.slice A 0 c) := by
 obtain ⟨A, n, c, h1, h2, _⟩ := h
 have := h2.len
 simp at this
 subst this
 exact ⟨A, c, (h1.cell 1).trans rfl⟩
theorem new_rdr (w : World) (q : Nat) (A : Option Addr) (n c : Nat) (bs : List UInt8) (hr : RdS w A n c bs) : Rdr (w.alloc (.cells #[.int .i64 (q : Int), .slice A n c] 154)) w.heap.size q bs :=
 ⟨A, n, c, BlkV.new_at _ _ _ _ _ rfl rfl, hr.below ((Below.refl _ _).alloc (Nat.le_refl _) _), hr.lo (Nat.le_refl _)⟩
theorem fit13 {cs : List Value} (h : cs.length = 13) : 0 + cs.length ≤ zCtl.length := by rw [h]; exact Nat.le_refl 13

set_option maxRecDepth 100000 in
set_option maxHeartbeats 1000000 in
theorem packet_received (A : Option Addr) (n c q s : Nat) (bs : List UInt8) (cc : Ctl) (w : World) (ht : Tab w) (hw : 0 < w.heap.size) (hr : RdS w A n c bs) (hn : 4 ≤ n) (hq : q < 32) (hs : s < 256) (h0 : (bs.getD 0 0).toNat = 128 + q) (h1 : (bs.getD 1 0).toNat = s) (hk : kindN s q = 201) (hB : BodyIs 99 q (bs.drop 4) cc) :
 Calls Tryz.prog 65 #[.slice A n c] w fun r w' => ∃ cs, r = .returned (.agg cs.toArray) ∧ OwnC w' w.heap.size cs { cc with k := 201 } ∧ Below w.heap.size w w' := by
 have hz := zeroCtl
 obtain ⟨b, off, rfl, hlt, hcl⟩ := hr.2.2.2.2 (by omega)
 have c0 := hcl 0 (by omega)
 have c1 := hcl 1 (by omega)
 rw [h0] at c0
 rw [h1] at c1
 have hs2 := hr.small
 have hle := hr.le
 obtain ⟨X, hX⟩ : ∃ X, X = 128 + q := ⟨_, rfl⟩
 rw [← hX] at c0
 have e1 : (X : Int) / 32 = 4 := hX ▸ (head_u8 q hq).1
 have e2 : bits .and .u8 (X : Int) 31 = (q : Int) := hX ▸ (head_u8 q hq).2
 have e3 : IntKind.i64.wrap (q : Int) = (q : Int) := by rw [IntKind.wrap_i64]; omega
 have e4 : IntKind.i64.wrap (s : Int) = (s : Int) := by rw [IntKind.wrap_i64]; omega
 have HR := Lib.hid hr
 have HT := Lib.hid ht
 have HK := Lib.hid hk
 have HB : Hid (∀ g w, Rdr w g q (bs.drop 4) → Calls Tryz.prog 99 #[.pointer (some ⟨g, 0, none⟩)] w fun r w' => ∃ cs, r = .returned (.agg cs.toArray) ∧ OwnC w' w.heap.size cs cc ∧ Rdr w' g q [] ∧ w.grownBy w' (some g)) := Lib.hid hB.2
 have bw : Hid (Below w.heap.size w (w.alloc (.cells zA 58))) := Lib.hid ((Below.refl _ _).alloc (Nat.le_refl _) _)
 have d0 : (w.alloc (.cells zA 58)).cell? ⟨b, off, none⟩ = some (.int .u8 (X : Int)) := (bw.out.cell (p := ⟨b, off, none⟩) hlt).trans c0
 have d1 : (w.alloc (.cells zA 58)).cell? ⟨b, off + 1, none⟩ = some (.int .u8 (s : Int)) := (bw.out.cell (p := ⟨b, off + 1, none⟩) hlt).trans c1
 have KN : Hid (∀ W, Below w.heap.size w W → Calls Tryz.prog 84 #[.int .i64 (s : Int), .int .i64 (q : Int)] W fun e w' => e = .returned (.int .i64 201) ∧ Below W.heap.size W w') := Lib.hid fun W hW => by
  have := kindOf_any s q s q rfl rfl W (HT.out.below hW hw) (Nat.lt_of_lt_of_le hw hW.size) hs hq
  rw [HK.out] at this
  exact this
 have BW : Hid (BlkV (w.alloc (.cells zA 58)) w.heap.size 58 zCtl) := Lib.hid (BlkV.new _ _ _)
 clear hcl c0 c1 hX hr ht hk hB h0 h1 hs
 go_enter Tryz.func65, Tryz.ntmps65
 go_wp2_with (first
  | (go_at_call 41; ((with_reducible refine (refuse_no _ _ _ ?_).mono ?_); (first | rfl | simp); rintro e wx ⟨rfl, rfl⟩))
  | (go_at_call 84; ((with_reducible refine (Hid.out KN _ bw.out).mono ?_); rintro e w2 ⟨rfl, hb2⟩; have b2 : Hid (Below w.heap.size w w2) := Lib.hid (bw.out.trans (hb2.mono bw.out.size)); have p2 := Lib.hid (BW.out.below hb2 BW.out.lt); clear hb2))
  | (go_at_call 85; ((with_reducible refine (bodies_any _).mono ?_); rintro e w3 ⟨rfl, hm3, hb3⟩; have b3 : Hid (Below w.heap.size w w3) := Lib.hid (b2.out.trans (hb3.mono b2.out.size)); have p3 := Lib.hid (p2.out.below hb3 p2.out.lt); have hlk := run_lkp w3 _ ent8 8 201 1 (.func (.func 99) #[] #[]) hm3 rfl rfl; clear hb3 hm3))
  | ((with_reducible refine wpList_cut rfl 32 (.tmp 36) (.const (.int .i64 4)) rfl undB szB (some ⟨b, off, none⟩) n c bs rfl 4 _ rfl rfl (HR.out.below b3.out) hn ?_); intro A2 hR2 hO2; have R3 := Lib.hid hR2; clear hR2 hO2)
  | (go_at_call 99; ((with_reducible refine (Hid.out HB w3.heap.size _ (new_rdr w3 q A2 (n - 4) (c - 4) _ R3.out)).mono ?_); rintro e w4 ⟨cs, rfl, hoc, hrd, hg4⟩; have O4 := Lib.hid hoc; have p4 := Lib.hid ((p3.out.alloc (.cells #[.int .i64 (q : Int), .slice A2 (n - 4) (c - 4)] 154)).grown hg4 (by have := p3.out.lt; intro e; injection e with e; omega)); have b4 : Hid (Below w.heap.size w w4) := Lib.hid ((b3.out.alloc b3.out.size _).grown hg4 (by simp; have := b3.out.size; omega) (fun p hp => by injection hp with hp; have := b3.out.size; omega)); have D4 := Lib.hid hrd; have hf13 := Lib.hid (fit13 hoc.len); clear hoc hrd hg4))
  | ((refine wpList_st rfl 58 (.tmp 8) (.tmp 40) rfl w4.heap.size 0 cs rfl rfl 58 zCtl (BlkV.new w4 _ _) hf13.out (rowCtl O4.out.len) O4.out.one ?_); intro w5 hB5 ho5; rw [splice_all _ _ (by rw [O4.out.len]; rfl)] at hB5; have B5 := Lib.hid hB5; have b45 : Hid (Below w4.heap.size w4 w5) := Lib.hid (((Below.refl _ _).alloc (Nat.le_refl _) _).trans (ho5.below (Nat.le_refl _))); obtain ⟨Ax, cx, hrest⟩ := (D4.out.below b45.out).none; have hfz := hB5.frozen 0; have cz := (hB5.cell 0).trans O4.out.k0; have O5 := Lib.hid (O4.out.below b45.out); have p5 := Lib.hid (p4.out.below b45.out p4.out.lt); have B6 := Lib.hid (B5.out.set_ 0 (.int .i64 201)); have R6 := Lib.hid (B6.out.range 0 (cs.set 0 (.int .i64 201)) (fun i _ => by rw [Nat.zero_add])); have L6 : Hid ((cs.set 0 (.int .i64 201)).length = 13) := Lib.hid (by rw [List.length_set]; exact O4.out.len); have O6 := Lib.hid ((O5.out.th (Only.set w5 w4.heap.size 0 (.int .i64 201)).grown (fun p hp => .inr ⟨_, _, by injection hp with hp; subst hp; exact B5.out⟩)).kind 201); have p6 := Lib.hid (p5.out.far (p := ⟨w4.heap.size, 0, none⟩) (by have := p4.out.lt; show w.heap.size ≠ w4.heap.size; omega) (.int .i64 201)); have F6 := Lib.hid (fit13 L6.out); have N6 := Lib.hid O6.out.one; clear hB5 ho5)
  | (with_reducible refine wpList_ld rfl 58 (.tmp 8) rfl w4.heap.size 0 rfl (cs.set 0 (.int .i64 201)) R6.out (rowCtl L6.out) ?_)
  | ((refine wpList_st rfl 58 (.tmp 2) (.tmp 48) rfl w.heap.size 0 (cs.set 0 (.int .i64 201)) rfl rfl 58 zCtl p6.out F6.out (rowCtl L6.out) N6.out ?_); intro w7 hB7 ho7; rw [splice_all _ _ (by rw [L6.out]; rfl)] at hB7))
 have hsz3 := b3.out.size
 have hsz4 := b4.out.size
 refine ret_row rfl rfl hB7 (rowCtl L6.out) rfl ?_
 exact ⟨_, rfl, (O6.out.th ho7.grown (fun p hp => .inl (by injection hp with hp; simp; omega))).mono (by simp; omega),
  (b4.out.trans (b45.out.mono hsz4)).trans (((Only.set w5 w4.heap.size 0 (.int .i64 201)).below hsz4).trans (ho7.below (Nat.le_refl _)))⟩

end Go.Proofs.YtheefckohnaceaaGreatDoor
