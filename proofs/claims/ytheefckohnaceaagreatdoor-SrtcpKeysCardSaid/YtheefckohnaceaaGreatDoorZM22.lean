/- Several texts in one: plain words and walks. No statement is proved here. -/
import Derived.Test.YtheefckohnaceaaGreatDoorZM21
import Derived.Recover
import Derived.Tactics2
import Derived.Laws.ResultCell
namespace Go.Proofs.YtheefckohnaceaaGreatDoor
open Go.RowKit
set_option linter.unusedVariables false

set_option maxRecDepth 100000 in
set_option maxHeartbeats 1000000 in
theorem packet_sent (A : Option Addr) (n c q s : Nat) (bs : List UInt8) (cc : Ctl) (w : World) (ht : Tab w) (hw : 0 < w.heap.size) (hr : RdS w A n c bs) (hn : 4 ≤ n) (hq : q < 32) (hs : s < 256) (h0 : (bs.getD 0 0).toNat = 128 + q) (h1 : (bs.getD 1 0).toNat = s) (hk : kindN s q = 200) (hB : BodyIs 98 q (bs.drop 4) cc) :
 Calls Tryz.prog 65 #[.slice A n c] w fun r w' => ∃ cs, r = .returned (.agg cs.toArray) ∧ OwnC w' w.heap.size cs { cc with k := 200 } ∧ Below w.heap.size w w' := by
 have hz := zeroCtl
 obtain ⟨b, off, rfl, hlt, hcl⟩ := hr.2.2.2.2 (by omega)
 have c0 := hcl 0 (by omega)
 have c1 := hcl 1 (by omega)
 rw [h0] at c0
 rw [h1] at c1
 have hs2 := hr.small
 have hle := hr.le
 obtain ⟨X, hX⟩ : ∃ X, X = 128 + q := ⟨_, rfl⟩
 rw [← hX] at c0
 have e1 : (X : Int) / 32 = 4 := hX ▸ (head_u8 q hq).1
 have e2 : bits .and .u8 (X : Int) 31 = (q : Int) := hX ▸ (head_u8 q hq).2
 have e3 : IntKind.i64.wrap (q : Int) = (q : Int) := by rw [IntKind.wrap_i64]; omega
 have e4 : IntKind.i64.wrap (s : Int) = (s : Int) := by rw [IntKind.wrap_i64]; omega
 have HR := Lib.hid hr
 have HT := Lib.hid ht
 have HK := Lib.hid hk
 have HB : Hid (∀ g w, Rdr w g q (bs.drop 4) → Calls Tryz.prog 98 #[.pointer (some ⟨g, 0, none⟩)] w fun r w' => ∃ cs, r = .returned (.agg cs.toArray) ∧ OwnC w' w.heap.size cs cc ∧ Rdr w' g q [] ∧ w.grownBy w' (some g)) := Lib.hid hB.2
 have bw : Hid (Below w.heap.size w (w.alloc (.cells zA 58))) := Lib.hid ((Below.refl _ _).alloc (Nat.le_refl _) _)
 have d0 : (w.alloc (.cells zA 58)).cell? ⟨b, off, none⟩ = some (.int .u8 (X : Int)) := (bw.out.cell (p := ⟨b, off, none⟩) hlt).trans c0
 have d1 : (w.alloc (.cells zA 58)).cell? ⟨b, off + 1, none⟩ = some (.int .u8 (s : Int)) := (bw.out.cell (p := ⟨b, off + 1, none⟩) hlt).trans c1
 have KN : Hid (∀ W, Below w.heap.size w W → Calls Tryz.prog 84 #[.int .i64 (s : Int), .int .i64 (q : Int)] W fun e w' => e = .returned (.int .i64 200) ∧ Below W.heap.size W w') := Lib.hid fun W hW => by
  have := kindOf_any s q s q rfl rfl W (HT.out.below hW hw) (Nat.lt_of_lt_of_le hw hW.size) hs hq
  rw [HK.out] at this
  exact this
 have BW : Hid (BlkV (w.alloc (.cells zA 58)) w.heap.size 58 zCtl) := Lib.hid (BlkV.new _ _ _)
 clear hcl c0 c1 hX hr ht hk hB h0 h1 hs
 go_enter Tryz.func65, Tryz.ntmps65
 go_wp2_with (first
  | (go_at_call 41; ((with_reducible refine (refuse_no _ _ _ ?_).mono ?_); (first | rfl | simp); rintro e wx ⟨rfl, rfl⟩))
  | (go_at_call 84; ((with_reducible refine (Hid.out KN _ bw.out).mono ?_); rintro e w2 ⟨rfl, hb2⟩; have b2 : Hid (Below w.heap.size w w2) := Lib.hid (bw.out.trans (hb2.mono bw.out.size)); have p2 := Lib.hid (BW.out.below hb2 BW.out.lt); clear hb2))
  | (go_at_call 85; ((with_reducible refine (bodies_any _).mono ?_); rintro e w3 ⟨rfl, hm3, hb3⟩; have b3 : Hid (Below w.heap.size w w3) := Lib.hid (b2.out.trans (hb3.mono b2.out.size)); have p3 := Lib.hid (p2.out.below hb3 p2.out.lt); have hlk := run_lkp w3 _ ent8 8 200 0 (.func (.func 98) #[] #[]) hm3 rfl rfl; clear hb3 hm3))
  | ((with_reducible refine wpList_cut rfl 32 (.tmp 36) (.const (.int .i64 4)) rfl undB szB (some ⟨b, off, none⟩) n c bs rfl 4 _ rfl rfl (HR.out.below b3.out) hn ?_); intro A2 hR2 hO2; have R3 := Lib.hid hR2; clear hR2 hO2)
  | (go_at_call 98; ((with_reducible refine (Hid.out HB w3.heap.size _ (new_rdr w3 q A2 (n - 4) (c - 4) _ R3.out)).mono ?_); rintro e w4 ⟨cs, rfl, hoc, hrd, hg4⟩; have O4 := Lib.hid hoc; have p4 := Lib.hid ((p3.out.alloc (.cells #[.int .i64 (q : Int), .slice A2 (n - 4) (c - 4)] 154)).grown hg4 (by have := p3.out.lt; intro e; injection e with e; omega)); have b4 : Hid (Below w.heap.size w w4) := Lib.hid ((b3.out.alloc b3.out.size _).grown hg4 (by simp; have := b3.out.size; omega) (fun p hp => by injection hp with hp; have := b3.out.size; omega)); have D4 := Lib.hid hrd; have hf13 := Lib.hid (fit13 hoc.len); clear hoc hrd hg4))
  | ((refine wpList_st rfl 58 (.tmp 8) (.tmp 40) rfl w4.heap.size 0 cs rfl rfl 58 zCtl (BlkV.new w4 _ _) hf13.out (rowCtl O4.out.len) O4.out.one ?_); intro w5 hB5 ho5; rw [splice_all _ _ (by rw [O4.out.len]; rfl)] at hB5; have B5 := Lib.hid hB5; have b45 : Hid (Below w4.heap.size w4 w5) := Lib.hid (((Below.refl _ _).alloc (Nat.le_refl _) _).trans (ho5.below (Nat.le_refl _))); obtain ⟨Ax, cx, hrest⟩ := (D4.out.below b45.out).none; have hfz := hB5.frozen 0; have cz := (hB5.cell 0).trans O4.out.k0; have O5 := Lib.hid (O4.out.below b45.out); have p5 := Lib.hid (p4.out.below b45.out p4.out.lt); have B6 := Lib.hid (B5.out.set_ 0 (.int .i64 200)); have R6 := Lib.hid (B6.out.range 0 (cs.set 0 (.int .i64 200)) (fun i _ => by rw [Nat.zero_add])); have L6 : Hid ((cs.set 0 (.int .i64 200)).length = 13) := Lib.hid (by rw [List.length_set]; exact O4.out.len); have O6 := Lib.hid ((O5.out.th (Only.set w5 w4.heap.size 0 (.int .i64 200)).grown (fun p hp => .inr ⟨_, _, by injection hp with hp; subst hp; exact B5.out⟩)).kind 200); have p6 := Lib.hid (p5.out.far (p := ⟨w4.heap.size, 0, none⟩) (by have := p4.out.lt; show w.heap.size ≠ w4.heap.size; omega) (.int .i64 200)); have F6 := Lib.hid (fit13 L6.out); have N6 := Lib.hid O6.out.one; clear hB5 ho5)
  | (with_reducible refine wpList_ld rfl 58 (.tmp 8) rfl w4.heap.size 0 rfl (cs.set 0 (.int .i64 200)) R6.out (rowCtl L6.out) ?_)
  | ((refine wpList_st rfl 58 (.tmp 2) (.tmp 48) rfl w.heap.size 0 (cs.set 0 (.int .i64 200)) rfl rfl 58 zCtl p6.out F6.out (rowCtl L6.out) N6.out ?_); intro w7 hB7 ho7; rw [splice_all _ _ (by rw [L6.out]; rfl)] at hB7))
 have hsz3 := b3.out.size
 have hsz4 := b4.out.size
 refine ret_row rfl rfl hB7 (rowCtl L6.out) rfl ?_
 exact ⟨_, rfl, (O6.out.th ho7.grown (fun p hp => .inl (by injection hp with hp; simp; omega))).mono (by simp; omega),
  (b4.out.trans (b45.out.mono hsz4)).trans (((Only.set w5 w4.heap.size 0 (.int .i64 200)).below hsz4).trans (ho7.below (Nat.le_refl _)))⟩

set_option maxRecDepth 100000 in
set_option maxHeartbeats 1000000 in
theorem packet_names (A : Option Addr) (n c q s : Nat) (bs : List UInt8) (cc : Ctl) (w : World) (ht : Tab w) (hw : 0 < w.heap.size) (hr : RdS w A n c bs) (hn : 4 ≤ n) (hq : q < 32) (hs : s < 256) (h0 : (bs.getD 0 0).toNat = 128 + q) (h1 : (bs.getD 1 0).toNat = s) (hk : kindN s q = 202) (hB : BodyIs 100 q (bs.drop 4) cc) :
 Calls Tryz.prog 65 #[.slice A n c] w fun r w' => ∃ cs, r = .returned (.agg cs.toArray) ∧ OwnC w' w.heap.size cs { cc with k := 202 } ∧ Below w.heap.size w w' := by
 have hz := zeroCtl
 obtain ⟨b, off, rfl, hlt, hcl⟩ := hr.2.2.2.2 (by omega)
 have c0 := hcl 0 (by omega)
 have c1 := hcl 1 (by omega)
 rw [h0] at c0
 rw [h1] at c1
 have hs2 := hr.small
 have hle := hr.le
 obtain ⟨X, hX⟩ : ∃ X, X = 128 + q := ⟨_, rfl⟩
 rw [← hX] at c0
 have e1 : (X : Int) / 32 = 4 := hX ▸ (head_u8 q hq).1
 have e2 : bits .and .u8 (X : Int) 31 = (q : Int) := hX ▸ (head_u8 q hq).2
 have e3 : IntKind.i64.wrap (q : Int) = (q : Int) := by rw [IntKind.wrap_i64]; omega
 have e4 : IntKind.i64.wrap (s : Int) = (s : Int) := by rw [IntKind.wrap_i64]; omega
 have HR := Lib.hid hr
 have HT := Lib.hid ht
 have HK := Lib.hid hk
 have HB : Hid (∀ g w, Rdr w g q (bs.drop 4) → Calls Tryz.prog 100 #[.pointer (some ⟨g, 0, none⟩)] w fun r w' => ∃ cs, r = .returned (.agg cs.toArray) ∧ OwnC w' w.heap.size cs cc ∧ Rdr w' g q [] ∧ w.grownBy w' (some g)) := Lib.hid hB.2
 have bw : Hid (Below w.heap.size w (w.alloc (.cells zA 58))) := Lib.hid ((Below.refl _ _).alloc (Nat.le_refl _) _)
 have d0 : (w.alloc (.cells zA 58)).cell? ⟨b, off, none⟩ = some (.int .u8 (X : Int)) := (bw.out.cell (p := ⟨b, off, none⟩) hlt).trans c0
 have d1 : (w.alloc (.cells zA 58)).cell? ⟨b, off + 1, none⟩ = some (.int .u8 (s : Int)) := (bw.out.cell (p := ⟨b, off + 1, none⟩) hlt).trans c1
 have KN : Hid (∀ W, Below w.heap.size w W → Calls Tryz.prog 84 #[.int .i64 (s : Int), .int .i64 (q : Int)] W fun e w' => e = .returned (.int .i64 202) ∧ Below W.heap.size W w') := Lib.hid fun W hW => by
  have := kindOf_any s q s q rfl rfl W (HT.out.below hW hw) (Nat.lt_of_lt_of_le hw hW.size) hs hq
  rw [HK.out] at this
  exact this
 have BW : Hid (BlkV (w.alloc (.cells zA 58)) w.heap.size 58 zCtl) := Lib.hid (BlkV.new _ _ _)
 clear hcl c0 c1 hX hr ht hk hB h0 h1 hs
 go_enter Tryz.func65, Tryz.ntmps65
 go_wp2_with (first
  | (go_at_call 41; ((with_reducible refine (refuse_no _ _ _ ?_).mono ?_); (first | rfl | simp); rintro e wx ⟨rfl, rfl⟩))
  | (go_at_call 84; ((with_reducible refine (Hid.out KN _ bw.out).mono ?_); rintro e w2 ⟨rfl, hb2⟩; have b2 : Hid (Below w.heap.size w w2) := Lib.hid (bw.out.trans (hb2.mono bw.out.size)); have p2 := Lib.hid (BW.out.below hb2 BW.out.lt); clear hb2))
  | (go_at_call 85; ((with_reducible refine (bodies_any _).mono ?_); rintro e w3 ⟨rfl, hm3, hb3⟩; have b3 : Hid (Below w.heap.size w w3) := Lib.hid (b2.out.trans (hb3.mono b2.out.size)); have p3 := Lib.hid (p2.out.below hb3 p2.out.lt); have hlk := run_lkp w3 _ ent8 8 202 2 (.func (.func 100) #[] #[]) hm3 rfl rfl; clear hb3 hm3))
  | ((with_reducible refine wpList_cut rfl 32 (.tmp 36) (.const (.int .i64 4)) rfl undB szB (some ⟨b, off, none⟩) n c bs rfl 4 _ rfl rfl (HR.out.below b3.out) hn ?_); intro A2 hR2 hO2; have R3 := Lib.hid hR2; clear hR2 hO2)
  | (go_at_call 100; ((with_reducible refine (Hid.out HB w3.heap.size _ (new_rdr w3 q A2 (n - 4) (c - 4) _ R3.out)).mono ?_); rintro e w4 ⟨cs, rfl, hoc, hrd, hg4⟩; have O4 := Lib.hid hoc; have p4 := Lib.hid ((p3.out.alloc (.cells #[.int .i64 (q : Int), .slice A2 (n - 4) (c - 4)] 154)).grown hg4 (by have := p3.out.lt; intro e; injection e with e; omega)); have b4 : Hid (Below w.heap.size w w4) := Lib.hid ((b3.out.alloc b3.out.size _).grown hg4 (by simp; have := b3.out.size; omega) (fun p hp => by injection hp with hp; have := b3.out.size; omega)); have D4 := Lib.hid hrd; have hf13 := Lib.hid (fit13 hoc.len); clear hoc hrd hg4))
  | ((refine wpList_st rfl 58 (.tmp 8) (.tmp 40) rfl w4.heap.size 0 cs rfl rfl 58 zCtl (BlkV.new w4 _ _) hf13.out (rowCtl O4.out.len) O4.out.one ?_); intro w5 hB5 ho5; rw [splice_all _ _ (by rw [O4.out.len]; rfl)] at hB5; have B5 := Lib.hid hB5; have b45 : Hid (Below w4.heap.size w4 w5) := Lib.hid (((Below.refl _ _).alloc (Nat.le_refl _) _).trans (ho5.below (Nat.le_refl _))); obtain ⟨Ax, cx, hrest⟩ := (D4.out.below b45.out).none; have hfz := hB5.frozen 0; have cz := (hB5.cell 0).trans O4.out.k0; have O5 := Lib.hid (O4.out.below b45.out); have p5 := Lib.hid (p4.out.below b45.out p4.out.lt); have B6 := Lib.hid (B5.out.set_ 0 (.int .i64 202)); have R6 := Lib.hid (B6.out.range 0 (cs.set 0 (.int .i64 202)) (fun i _ => by rw [Nat.zero_add])); have L6 : Hid ((cs.set 0 (.int .i64 202)).length = 13) := Lib.hid (by rw [List.length_set]; exact O4.out.len); have O6 := Lib.hid ((O5.out.th (Only.set w5 w4.heap.size 0 (.int .i64 202)).grown (fun p hp => .inr ⟨_, _, by injection hp with hp; subst hp; exact B5.out⟩)).kind 202); have p6 := Lib.hid (p5.out.far (p := ⟨w4.heap.size, 0, none⟩) (by have := p4.out.lt; show w.heap.size ≠ w4.heap.size; omega) (.int .i64 202)); have F6 := Lib.hid (fit13 L6.out); have N6 := Lib.hid O6.out.one; clear hB5 ho5)
  | (with_reducible refine wpList_ld rfl 58 (.tmp 8) rfl w4.heap.size 0 rfl (cs.set 0 (.int .i64 202)) R6.out (rowCtl L6.out) ?_)
  | ((refine wpList_st rfl 58 (.tmp 2) (.tmp 48) rfl w.heap.size 0 (cs.set 0 (.int .i64 202)) rfl rfl 58 zCtl p6.out F6.out (rowCtl L6.out) N6.out ?_); intro w7 hB7 ho7; rw [splice_all _ _ (by rw [L6.out]; rfl)] at hB7))
 have hsz3 := b3.out.size
 have hsz4 := b4.out.size
 refine ret_row rfl rfl hB7 (rowCtl L6.out) rfl ?_
 exact ⟨_, rfl, (O6.out.th ho7.grown (fun p hp => .inl (by injection hp with hp; simp; omega))).mono (by simp; omega),
  (b4.out.trans (b45.out.mono hsz4)).trans (((Only.set w5 w4.heap.size 0 (.int .i64 202)).below hsz4).trans (ho7.below (Nat.le_refl _)))⟩

set_option maxRecDepth 100000 in
set_option maxHeartbeats 1000000 in
theorem packet_bye (A : Option Addr) (n c q s : Nat) (bs : List UInt8) (cc : Ctl) (w : World) (ht : Tab w) (hw : 0 < w.heap.size) (hr : RdS w A n c bs) (hn : 4 ≤ n) (hq : q < 32) (hs : s < 256) (h0 : (bs.getD 0 0).toNat = 128 + q) (h1 : (bs.getD 1 0).toNat = s) (hk : kindN s q = 203) (hB : BodyIs 101 q (bs.drop 4) cc) :
 Calls Tryz.prog 65 #[.slice A n c] w fun r w' => ∃ cs, r = .returned (.agg cs.toArray) ∧ OwnC w' w.heap.size cs { cc with k := 203 } ∧ Below w.heap.size w w' := by
 have hz := zeroCtl
 obtain ⟨b, off, rfl, hlt, hcl⟩ := hr.2.2.2.2 (by omega)
 have c0 := hcl 0 (by omega)
 have c1 := hcl 1 (by omega)
 rw [h0] at c0
 rw [h1] at c1
 have hs2 := hr.small
 have hle := hr.le
 obtain ⟨X, hX⟩ : ∃ X, X = 128 + q := ⟨_, rfl⟩
 rw [← hX] at c0
 have e1 : (X : Int) / 32 = 4 := hX ▸ (head_u8 q hq).1
 have e2 : bits .and .u8 (X : Int) 31 = (q : Int) := hX ▸ (head_u8 q hq).2
 have e3 : IntKind.i64.wrap (q : Int) = (q : Int) := by rw [IntKind.wrap_i64]; omega
 have e4 : IntKind.i64.wrap (s : Int) = (s : Int) := by rw [IntKind.wrap_i64]; omega
 have HR := Lib.hid hr
 have HT := Lib.hid ht
 have HK := Lib.hid hk
 have HB : Hid (∀ g w, Rdr w g q (bs.drop 4) → Calls Tryz.prog 101 #[.pointer (some ⟨g, 0, none⟩)] w fun r w' => ∃ cs, r = .returned (.agg cs.toArray) ∧ OwnC w' w.heap.size cs cc ∧ Rdr w' g q [] ∧ w.grownBy w' (some g)) := Lib.hid hB.2
 have bw : Hid (Below w.heap.size w (w.alloc (.cells zA 58))) := Lib.hid ((Below.refl _ _).alloc (Nat.le_refl _) _)
 have d0 : (w.alloc (.cells zA 58)).cell? ⟨b, off, none⟩ = some (.int .u8 (X : Int)) := (bw.out.cell (p := ⟨b, off, none⟩) hlt).trans c0
 have d1 : (w.alloc (.cells zA 58)).cell? ⟨b, off + 1, none⟩ = some (.int .u8 (s : Int)) := (bw.out.cell (p := ⟨b, off + 1, none⟩) hlt).trans c1
 have KN : Hid (∀ W, Below w.heap.size w W → Calls Tryz.prog 84 #[.int .i64 (s : Int), .int .i64 (q : Int)] W fun e w' => e = .returned (.int .i64 203) ∧ Below W.heap.size W w') := Lib.hid fun W hW => by
  have := kindOf_any s q s q rfl rfl W (HT.out.below hW hw) (Nat.lt_of_lt_of_le hw hW.size) hs hq
  rw [HK.out] at this
  exact this
 have BW : Hid (BlkV (w.alloc (.cells zA 58)) w.heap.size 58 zCtl) := Lib.hid (BlkV.new _ _ _)
 clear hcl c0 c1 hX hr ht hk hB h0 h1 hs
 go_enter Tryz.func65, Tryz.ntmps65
 go_wp2_with (first
  | (go_at_call 41; ((with_reducible refine (refuse_no _ _ _ ?_).mono ?_); (first | rfl | simp); rintro e wx ⟨rfl, rfl⟩))
  | (go_at_call 84; ((with_reducible refine (Hid.out KN _ bw.out).mono ?_); rintro e w2 ⟨rfl, hb2⟩; have b2 : Hid (Below w.heap.size w w2) := Lib.hid (bw.out.trans (hb2.mono bw.out.size)); have p2 := Lib.hid (BW.out.below hb2 BW.out.lt); clear hb2))
  | (go_at_call 85; ((with_reducible refine (bodies_any _).mono ?_); rintro e w3 ⟨rfl, hm3, hb3⟩; have b3 : Hid (Below w.heap.size w w3) := Lib.hid (b2.out.trans (hb3.mono b2.out.size)); have p3 := Lib.hid (p2.out.below hb3 p2.out.lt); have hlk := run_lkp w3 _ ent8 8 203 3 (.func (.func 101) #[] #[]) hm3 rfl rfl; clear hb3 hm3))
  | ((with_reducible refine wpList_cut rfl 32 (.tmp 36) (.const (.int .i64 4)) rfl undB szB (some ⟨b, off, none⟩) n c bs rfl 4 _ rfl rfl (HR.out.below b3.out) hn ?_); intro A2 hR2 hO2; have R3 := Lib.hid hR2; clear hR2 hO2)
  | (go_at_call 101; ((with_reducible refine (Hid.out HB w3.heap.size _ (new_rdr w3 q A2 (n - 4) (c - 4) _ R3.out)).mono ?_); rintro e w4 ⟨cs, rfl, hoc, hrd, hg4⟩; have O4 := Lib.hid hoc; have p4 := Lib.hid ((p3.out.alloc (.cells #[.int .i64 (q : Int), .slice A2 (n - 4) (c - 4)] 154)).grown hg4 (by have := p3.out.lt; intro e; injection e with e; omega)); have b4 : Hid (Below w.heap.size w w4) := Lib.hid ((b3.out.alloc b3.out.size _).grown hg4 (by simp; have := b3.out.size; omega) (fun p hp => by injection hp with hp; have := b3.out.size; omega)); have D4 := Lib.hid hrd; have hf13 := Lib.hid (fit13 hoc.len); clear hoc hrd hg4))
  | ((refine wpList_st rfl 58 (.tmp 8) (.tmp 40) rfl w4.heap.size 0 cs rfl rfl 58 zCtl (BlkV.new w4 _ _) hf13.out (rowCtl O4.out.len) O4.out.one ?_); intro w5 hB5 ho5; rw [splice_all _ _ (by rw [O4.out.len]; rfl)] at hB5; have B5 := Lib.hid hB5; have b45 : Hid (Below w4.heap.size w4 w5) := Lib.hid (((Below.refl _ _).alloc (Nat.le_refl _) _).trans (ho5.below (Nat.le_refl _))); obtain ⟨Ax, cx, hrest⟩ := (D4.out.below b45.out).none; have hfz := hB5.frozen 0; have cz := (hB5.cell 0).trans O4.out.k0; have O5 := Lib.hid (O4.out.below b45.out); have p5 := Lib.hid (p4.out.below b45.out p4.out.lt); have B6 := Lib.hid (B5.out.set_ 0 (.int .i64 203)); have R6 := Lib.hid (B6.out.range 0 (cs.set 0 (.int .i64 203)) (fun i _ => by rw [Nat.zero_add])); have L6 : Hid ((cs.set 0 (.int .i64 203)).length = 13) := Lib.hid (by rw [List.length_set]; exact O4.out.len); have O6 := Lib.hid ((O5.out.th (Only.set w5 w4.heap.size 0 (.int .i64 203)).grown (fun p hp => .inr ⟨_, _, by injection hp with hp; subst hp; exact B5.out⟩)).kind 203); have p6 := Lib.hid (p5.out.far (p := ⟨w4.heap.size, 0, none⟩) (by have := p4.out.lt; show w.heap.size ≠ w4.heap.size; omega) (.int .i64 203)); have F6 := Lib.hid (fit13 L6.out); have N6 := Lib.hid O6.out.one; clear hB5 ho5)
  | (with_reducible refine wpList_ld rfl 58 (.tmp 8) rfl w4.heap.size 0 rfl (cs.set 0 (.int .i64 203)) R6.out (rowCtl L6.out) ?_)
  | ((refine wpList_st rfl 58 (.tmp 2) (.tmp 48) rfl w.heap.size 0 (cs.set 0 (.int .i64 203)) rfl rfl 58 zCtl p6.out F6.out (rowCtl L6.out) N6.out ?_); intro w7 hB7 ho7; rw [splice_all _ _ (by rw [L6.out]; rfl)] at hB7))
 have hsz3 := b3.out.size
 have hsz4 := b4.out.size
 refine ret_row rfl rfl hB7 (rowCtl L6.out) rfl ?_
 exact ⟨_, rfl, (O6.out.th ho7.grown (fun p hp => .inl (by injection hp with hp; simp; omega))).mono (by simp; omega),
  (b4.out.trans (b45.out.mono hsz4)).trans (((Only.set w5 w4.heap.size 0 (.int .i64 203)).below hsz4).trans (ho7.below (Nat.le_refl _)))⟩

set_option maxRecDepth 100000 in
set_option maxHeartbeats 1000000 in
theorem packet_nack (A : Option Addr) (n c q s : Nat) (bs : List UInt8) (cc : Ctl) (w : World) (ht : Tab w) (hw : 0 < w.heap.size) (hr : RdS w A n c bs) (hn : 4 ≤ n) (hq : q < 32) (hs : s < 256) (h0 : (bs.getD 0 0).toNat = 128 + q) (h1 : (bs.getD 1 0).toNat = s) (hk : kindN s q = 1) (hB : BodyIs 102 q (bs.drop 4) cc) :
 Calls Tryz.prog 65 #[.slice A n c] w fun r w' => ∃ cs, r = .returned (.agg cs.toArray) ∧ OwnC w' w.heap.size cs { cc with k := 1 } ∧ Below w.heap.size w w' := by
 have hz := zeroCtl
 obtain ⟨b, off, rfl, hlt, hcl⟩ := hr.2.2.2.2 (by omega)
 have c0 := hcl 0 (by omega)
 have c1 := hcl 1 (by omega)
 rw [h0] at c0
 rw [h1] at c1
 have hs2 := hr.small
 have hle := hr.le
 obtain ⟨X, hX⟩ : ∃ X, X = 128 + q := ⟨_, rfl⟩
 rw [← hX] at c0
 have e1 : (X : Int) / 32 = 4 := hX ▸ (head_u8 q hq).1
 have e2 : bits .and .u8 (X : Int) 31 = (q : Int) := hX ▸ (head_u8 q hq).2
 have e3 : IntKind.i64.wrap (q : Int) = (q : Int) := by rw [IntKind.wrap_i64]; omega
 have e4 : IntKind.i64.wrap (s : Int) = (s : Int) := by rw [IntKind.wrap_i64]; omega
 have HR := Lib.hid hr
 have HT := Lib.hid ht
 have HK := Lib.hid hk
 have HB : Hid (∀ g w, Rdr w g q (bs.drop 4) → Calls Tryz.prog 102 #[.pointer (some ⟨g, 0, none⟩)] w fun r w' => ∃ cs, r = .returned (.agg cs.toArray) ∧ OwnC w' w.heap.size cs cc ∧ Rdr w' g q [] ∧ w.grownBy w' (some g)) := Lib.hid hB.2
 have bw : Hid (Below w.heap.size w (w.alloc (.cells zA 58))) := Lib.hid ((Below.refl _ _).alloc (Nat.le_refl _) _)
 have d0 : (w.alloc (.cells zA 58)).cell? ⟨b, off, none⟩ = some (.int .u8 (X : Int)) := (bw.out.cell (p := ⟨b, off, none⟩) hlt).trans c0
 have d1 : (w.alloc (.cells zA 58)).cell? ⟨b, off + 1, none⟩ = some (.int .u8 (s : Int)) := (bw.out.cell (p := ⟨b, off + 1, none⟩) hlt).trans c1
 have KN : Hid (∀ W, Below w.heap.size w W → Calls Tryz.prog 84 #[.int .i64 (s : Int), .int .i64 (q : Int)] W fun e w' => e = .returned (.int .i64 1) ∧ Below W.heap.size W w') := Lib.hid fun W hW => by
  have := kindOf_any s q s q rfl rfl W (HT.out.below hW hw) (Nat.lt_of_lt_of_le hw hW.size) hs hq
  rw [HK.out] at this
  exact this
 have BW : Hid (BlkV (w.alloc (.cells zA 58)) w.heap.size 58 zCtl) := Lib.hid (BlkV.new _ _ _)
 clear hcl c0 c1 hX hr ht hk hB h0 h1 hs
 go_enter Tryz.func65, Tryz.ntmps65
 go_wp2_with (first
  | (go_at_call 41; ((with_reducible refine (refuse_no _ _ _ ?_).mono ?_); (first | rfl | simp); rintro e wx ⟨rfl, rfl⟩))
  | (go_at_call 84; ((with_reducible refine (Hid.out KN _ bw.out).mono ?_); rintro e w2 ⟨rfl, hb2⟩; have b2 : Hid (Below w.heap.size w w2) := Lib.hid (bw.out.trans (hb2.mono bw.out.size)); have p2 := Lib.hid (BW.out.below hb2 BW.out.lt); clear hb2))
  | (go_at_call 85; ((with_reducible refine (bodies_any _).mono ?_); rintro e w3 ⟨rfl, hm3, hb3⟩; have b3 : Hid (Below w.heap.size w w3) := Lib.hid (b2.out.trans (hb3.mono b2.out.size)); have p3 := Lib.hid (p2.out.below hb3 p2.out.lt); have hlk := run_lkp w3 _ ent8 8 1 4 (.func (.func 102) #[] #[]) hm3 rfl rfl; clear hb3 hm3))
  | ((with_reducible refine wpList_cut rfl 32 (.tmp 36) (.const (.int .i64 4)) rfl undB szB (some ⟨b, off, none⟩) n c bs rfl 4 _ rfl rfl (HR.out.below b3.out) hn ?_); intro A2 hR2 hO2; have R3 := Lib.hid hR2; clear hR2 hO2)
  | (go_at_call 102; ((with_reducible refine (Hid.out HB w3.heap.size _ (new_rdr w3 q A2 (n - 4) (c - 4) _ R3.out)).mono ?_); rintro e w4 ⟨cs, rfl, hoc, hrd, hg4⟩; have O4 := Lib.hid hoc; have p4 := Lib.hid ((p3.out.alloc (.cells #[.int .i64 (q : Int), .slice A2 (n - 4) (c - 4)] 154)).grown hg4 (by have := p3.out.lt; intro e; injection e with e; omega)); have b4 : Hid (Below w.heap.size w w4) := Lib.hid ((b3.out.alloc b3.out.size _).grown hg4 (by simp; have := b3.out.size; omega) (fun p hp => by injection hp with hp; have := b3.out.size; omega)); have D4 := Lib.hid hrd; have hf13 := Lib.hid (fit13 hoc.len); clear hoc hrd hg4))
  | ((refine wpList_st rfl 58 (.tmp 8) (.tmp 40) rfl w4.heap.size 0 cs rfl rfl 58 zCtl (BlkV.new w4 _ _) hf13.out (rowCtl O4.out.len) O4.out.one ?_); intro w5 hB5 ho5; rw [splice_all _ _ (by rw [O4.out.len]; rfl)] at hB5; have B5 := Lib.hid hB5; have b45 : Hid (Below w4.heap.size w4 w5) := Lib.hid (((Below.refl _ _).alloc (Nat.le_refl _) _).trans (ho5.below (Nat.le_refl _))); obtain ⟨Ax, cx, hrest⟩ := (D4.out.below b45.out).none; have hfz := hB5.frozen 0; have cz := (hB5.cell 0).trans O4.out.k0; have O5 := Lib.hid (O4.out.below b45.out); have p5 := Lib.hid (p4.out.below b45.out p4.out.lt); have B6 := Lib.hid (B5.out.set_ 0 (.int .i64 1)); have R6 := Lib.hid (B6.out.range 0 (cs.set 0 (.int .i64 1)) (fun i _ => by rw [Nat.zero_add])); have L6 : Hid ((cs.set 0 (.int .i64 1)).length = 13) := Lib.hid (by rw [List.length_set]; exact O4.out.len); have O6 := Lib.hid ((O5.out.th (Only.set w5 w4.heap.size 0 (.int .i64 1)).grown (fun p hp => .inr ⟨_, _, by injection hp with hp; subst hp; exact B5.out⟩)).kind 1); have p6 := Lib.hid (p5.out.far (p := ⟨w4.heap.size, 0, none⟩) (by have := p4.out.lt; show w.heap.size ≠ w4.heap.size; omega) (.int .i64 1)); have F6 := Lib.hid (fit13 L6.out); have N6 := Lib.hid O6.out.one; clear hB5 ho5)
  | (with_reducible refine wpList_ld rfl 58 (.tmp 8) rfl w4.heap.size 0 rfl (cs.set 0 (.int .i64 1)) R6.out (rowCtl L6.out) ?_)
  | ((refine wpList_st rfl 58 (.tmp 2) (.tmp 48) rfl w.heap.size 0 (cs.set 0 (.int .i64 1)) rfl rfl 58 zCtl p6.out F6.out (rowCtl L6.out) N6.out ?_); intro w7 hB7 ho7; rw [splice_all _ _ (by rw [L6.out]; rfl)] at hB7))
 have hsz3 := b3.out.size
 have hsz4 := b4.out.size
 refine ret_row rfl rfl hB7 (rowCtl L6.out) rfl ?_
 exact ⟨_, rfl, (O6.out.th ho7.grown (fun p hp => .inl (by injection hp with hp; simp; omega))).mono (by simp; omega),
  (b4.out.trans (b45.out.mono hsz4)).trans (((Only.set w5 w4.heap.size 0 (.int .i64 1)).below hsz4).trans (ho7.below (Nat.le_refl _)))⟩

set_option maxRecDepth 100000 in
set_option maxHeartbeats 1000000 in
theorem packet_pli (A : Option Addr) (n c q s : Nat) (bs : List UInt8) (cc : Ctl) (w : World) (ht : Tab w) (hw : 0 < w.heap.size) (hr : RdS w A n c bs) (hn : 4 ≤ n) (hq : q < 32) (hs : s < 256) (h0 : (bs.getD 0 0).toNat = 128 + q) (h1 : (bs.getD 1 0).toNat = s) (hk : kindN s q = 2) (hB : BodyIs 103 q (bs.drop 4) cc) :
 Calls Tryz.prog 65 #[.slice A n c] w fun r w' => ∃ cs, r = .returned (.agg cs.toArray) ∧ OwnC w' w.heap.size cs { cc with k := 2 } ∧ Below w.heap.size w w' := by
 have hz := zeroCtl
 obtain ⟨b, off, rfl, hlt, hcl⟩ := hr.2.2.2.2 (by omega)
 have c0 := hcl 0 (by omega)
 have c1 := hcl 1 (by omega)
 rw [h0] at c0
 rw [h1] at c1
 have hs2 := hr.small
 have hle := hr.le
 obtain ⟨X, hX⟩ : ∃ X, X = 128 + q := ⟨_, rfl⟩
 rw [← hX] at c0
 have e1 : (X : Int) / 32 = 4 := hX ▸ (head_u8 q hq).1
 have e2 : bits .and .u8 (X : Int) 31 = (q : Int) := hX ▸ (head_u8 q hq).2
 have e3 : IntKind.i64.wrap (q : Int) = (q : Int) := by rw [IntKind.wrap_i64]; omega
 have e4 : IntKind.i64.wrap (s : Int) = (s : Int) := by rw [IntKind.wrap_i64]; omega
 have HR := Lib.hid hr
 have HT := Lib.hid ht
 have HK := Lib.hid hk
 have HB : Hid (∀ g w, Rdr w g q (bs.drop 4) → Calls Tryz.prog 103 #[.pointer (some ⟨g, 0, none⟩)] w fun r w' => ∃ cs, r = .returned (.agg cs.toArray) ∧ OwnC w' w.heap.size cs cc ∧ Rdr w' g q [] ∧ w.grownBy w' (some g)) := Lib.hid hB.2
 have bw : Hid (Below w.heap.size w (w.alloc (.cells zA 58))) := Lib.hid ((Below.refl _ _).alloc (Nat.le_refl _) _)
 have d0 : (w.alloc (.cells zA 58)).cell? ⟨b, off, none⟩ = some (.int .u8 (X : Int)) := (bw.out.cell (p := ⟨b, off, none⟩) hlt).trans c0
 have d1 : (w.alloc (.cells zA 58)).cell? ⟨b, off + 1, none⟩ = some (.int .u8 (s : Int)) := (bw.out.cell (p := ⟨b, off + 1, none⟩) hlt).trans c1
 have KN : Hid (∀ W, Below w.heap.size w W → Calls Tryz.prog 84 #[.int .i64 (s : Int), .int .i64 (q : Int)] W fun e w' => e = .returned (.int .i64 2) ∧ Below W.heap.size W w') := Lib.hid fun W hW => by
  have := kindOf_any s q s q rfl rfl W (HT.out.below hW hw) (Nat.lt_of_lt_of_le hw hW.size) hs hq
  rw [HK.out] at this
  exact this
 have BW : Hid (BlkV (w.alloc (.cells zA 58)) w.heap.size 58 zCtl) := Lib.hid (BlkV.new _ _ _)
 clear hcl c0 c1 hX hr ht hk hB h0 h1 hs
 go_enter Tryz.func65, Tryz.ntmps65
 go_wp2_with (first
  | (go_at_call 41; ((with_reducible refine (refuse_no _ _ _ ?_).mono ?_); (first | rfl | simp); rintro e wx ⟨rfl, rfl⟩))
  | (go_at_call 84; ((with_reducible refine (Hid.out KN _ bw.out).mono ?_); rintro e w2 ⟨rfl, hb2⟩; have b2 : Hid (Below w.heap.size w w2) := Lib.hid (bw.out.trans (hb2.mono bw.out.size)); have p2 := Lib.hid (BW.out.below hb2 BW.out.lt); clear hb2))
  | (go_at_call 85; ((with_reducible refine (bodies_any _).mono ?_); rintro e w3 ⟨rfl, hm3, hb3⟩; have b3 : Hid (Below w.heap.size w w3) := Lib.hid (b2.out.trans (hb3.mono b2.out.size)); have p3 := Lib.hid (p2.out.below hb3 p2.out.lt); have hlk := run_lkp w3 _ ent8 8 2 5 (.func (.func 103) #[] #[]) hm3 rfl rfl; clear hb3 hm3))
  | ((with_reducible refine wpList_cut rfl 32 (.tmp 36) (.const (.int .i64 4)) rfl undB szB (some ⟨b, off, none⟩) n c bs rfl 4 _ rfl rfl (HR.out.below b3.out) hn ?_); intro A2 hR2 hO2; have R3 := Lib.hid hR2; clear hR2 hO2)
  | (go_at_call 103; ((with_reducible refine (Hid.out HB w3.heap.size _ (new_rdr w3 q A2 (n - 4) (c - 4) _ R3.out)).mono ?_); rintro e w4 ⟨cs, rfl, hoc, hrd, hg4⟩; have O4 := Lib.hid hoc; have p4 := Lib.hid ((p3.out.alloc (.cells #[.int .i64 (q : Int), .slice A2 (n - 4) (c - 4)] 154)).grown hg4 (by have := p3.out.lt; intro e; injection e with e; omega)); have b4 : Hid (Below w.heap.size w w4) := Lib.hid ((b3.out.alloc b3.out.size _).grown hg4 (by simp; have := b3.out.size; omega) (fun p hp => by injection hp with hp; have := b3.out.size; omega)); have D4 := Lib.hid hrd; have hf13 := Lib.hid (fit13 hoc.len); clear hoc hrd hg4))
  | ((refine wpList_st rfl 58 (.tmp 8) (.tmp 40) rfl w4.heap.size 0 cs rfl rfl 58 zCtl (BlkV.new w4 _ _) hf13.out (rowCtl O4.out.len) O4.out.one ?_); intro w5 hB5 ho5; rw [splice_all _ _ (by rw [O4.out.len]; rfl)] at hB5; have B5 := Lib.hid hB5; have b45 : Hid (Below w4.heap.size w4 w5) := Lib.hid (((Below.refl _ _).alloc (Nat.le_refl _) _).trans (ho5.below (Nat.le_refl _))); obtain ⟨Ax, cx, hrest⟩ := (D4.out.below b45.out).none; have hfz := hB5.frozen 0; have cz := (hB5.cell 0).trans O4.out.k0; have O5 := Lib.hid (O4.out.below b45.out); have p5 := Lib.hid (p4.out.below b45.out p4.out.lt); have B6 := Lib.hid (B5.out.set_ 0 (.int .i64 2)); have R6 := Lib.hid (B6.out.range 0 (cs.set 0 (.int .i64 2)) (fun i _ => by rw [Nat.zero_add])); have L6 : Hid ((cs.set 0 (.int .i64 2)).length = 13) := Lib.hid (by rw [List.length_set]; exact O4.out.len); have O6 := Lib.hid ((O5.out.th (Only.set w5 w4.heap.size 0 (.int .i64 2)).grown (fun p hp => .inr ⟨_, _, by injection hp with hp; subst hp; exact B5.out⟩)).kind 2); have p6 := Lib.hid (p5.out.far (p := ⟨w4.heap.size, 0, none⟩) (by have := p4.out.lt; show w.heap.size ≠ w4.heap.size; omega) (.int .i64 2)); have F6 := Lib.hid (fit13 L6.out); have N6 := Lib.hid O6.out.one; clear hB5 ho5)
  | (with_reducible refine wpList_ld rfl 58 (.tmp 8) rfl w4.heap.size 0 rfl (cs.set 0 (.int .i64 2)) R6.out (rowCtl L6.out) ?_)
  | ((refine wpList_st rfl 58 (.tmp 2) (.tmp 48) rfl w.heap.size 0 (cs.set 0 (.int .i64 2)) rfl rfl 58 zCtl p6.out F6.out (rowCtl L6.out) N6.out ?_); intro w7 hB7 ho7; rw [splice_all _ _ (by rw [L6.out]; rfl)] at hB7))
 have hsz3 := b3.out.size
 have hsz4 := b4.out.size
 refine ret_row rfl rfl hB7 (rowCtl L6.out) rfl ?_
 exact ⟨_, rfl, (O6.out.th ho7.grown (fun p hp => .inl (by injection hp with hp; simp; omega))).mono (by simp; omega),
  (b4.out.trans (b45.out.mono hsz4)).trans (((Only.set w5 w4.heap.size 0 (.int .i64 2)).below hsz4).trans (ho7.below (Nat.le_refl _)))⟩

set_option maxRecDepth 100000 in
set_option maxHeartbeats 1000000 in
theorem packet_fir (A : Option Addr) (n c q s : Nat) (bs : List UInt8) (cc : Ctl) (w : World) (ht : Tab w) (hw : 0 < w.heap.size) (hr : RdS w A n c bs) (hn : 4 ≤ n) (hq : q < 32) (hs : s < 256) (h0 : (bs.getD 0 0).toNat = 128 + q) (h1 : (bs.getD 1 0).toNat = s) (hk : kindN s q = 3) (hB : BodyIs 104 q (bs.drop 4) cc) :
 Calls Tryz.prog 65 #[.slice A n c] w fun r w' => ∃ cs, r = .returned (.agg cs.toArray) ∧ OwnC w' w.heap.size cs { cc with k := 3 } ∧ Below w.heap.size w w' := by
 have hz := zeroCtl
 obtain ⟨b, off, rfl, hlt, hcl⟩ := hr.2.2.2.2 (by omega)
 have c0 := hcl 0 (by omega)
 have c1 := hcl 1 (by omega)
 rw [h0] at c0
 rw [h1] at c1
 have hs2 := hr.small
 have hle := hr.le
 obtain ⟨X, hX⟩ : ∃ X, X = 128 + q := ⟨_, rfl⟩
 rw [← hX] at c0
 have e1 : (X : Int) / 32 = 4 := hX ▸ (head_u8 q hq).1
 have e2 : bits .and .u8 (X : Int) 31 = (q : Int) := hX ▸ (head_u8 q hq).2
 have e3 : IntKind.i64.wrap (q : Int) = (q : Int) := by rw [IntKind.wrap_i64]; omega
 have e4 : IntKind.i64.wrap (s : Int) = (s : Int) := by rw [IntKind.wrap_i64]; omega
 have HR := Lib.hid hr
 have HT := Lib.hid ht
 have HK := Lib.hid hk
 have HB : Hid (∀ g w, Rdr w g q (bs.drop 4) → Calls Tryz.prog 104 #[.pointer (some ⟨g, 0, none⟩)] w fun r w' => ∃ cs, r = .returned (.agg cs.toArray) ∧ OwnC w' w.heap.size cs cc ∧ Rdr w' g q [] ∧ w.grownBy w' (some g)) := Lib.hid hB.2
 have bw : Hid (Below w.heap.size w (w.alloc (.cells zA 58))) := Lib.hid ((Below.refl _ _).alloc (Nat.le_refl _) _)
 have d0 : (w.alloc (.cells zA 58)).cell? ⟨b, off, none⟩ = some (.int .u8 (X : Int)) := (bw.out.cell (p := ⟨b, off, none⟩) hlt).trans c0
 have d1 : (w.alloc (.cells zA 58)).cell? ⟨b, off + 1, none⟩ = some (.int .u8 (s : Int)) := (bw.out.cell (p := ⟨b, off + 1, none⟩) hlt).trans c1
 have KN : Hid (∀ W, Below w.heap.size w W → Calls Tryz.prog 84 #[.int .i64 (s : Int), .int .i64 (q : Int)] W fun e w' => e = .returned (.int .i64 3) ∧ Below W.heap.size W w') := Lib.hid fun W hW => by
  have := kindOf_any s q s q rfl rfl W (HT.out.below hW hw) (Nat.lt_of_lt_of_le hw hW.size) hs hq
  rw [HK.out] at this
  exact this
 have BW : Hid (BlkV (w.alloc (.cells zA 58)) w.heap.size 58 zCtl) := Lib.hid (BlkV.new _ _ _)
 clear hcl c0 c1 hX hr ht hk hB h0 h1 hs
 go_enter Tryz.func65, Tryz.ntmps65
 go_wp2_with (first
  | (go_at_call 41; ((with_reducible refine (refuse_no _ _ _ ?_).mono ?_); (first | rfl | simp); rintro e wx ⟨rfl, rfl⟩))
  | (go_at_call 84; ((with_reducible refine (Hid.out KN _ bw.out).mono ?_); rintro e w2 ⟨rfl, hb2⟩; have b2 : Hid (Below w.heap.size w w2) := Lib.hid (bw.out.trans (hb2.mono bw.out.size)); have p2 := Lib.hid (BW.out.below hb2 BW.out.lt); clear hb2))
  | (go_at_call 85; ((with_reducible refine (bodies_any _).mono ?_); rintro e w3 ⟨rfl, hm3, hb3⟩; have b3 : Hid (Below w.heap.size w w3) := Lib.hid (b2.out.trans (hb3.mono b2.out.size)); have p3 := Lib.hid (p2.out.below hb3 p2.out.lt); have hlk := run_lkp w3 _ ent8 8 3 6 (.func (.func 104) #[] #[]) hm3 rfl rfl; clear hb3 hm3))
  | ((with_reducible refine wpList_cut rfl 32 (.tmp 36) (.const (.int .i64 4)) rfl undB szB (some ⟨b, off, none⟩) n c bs rfl 4 _ rfl rfl (HR.out.below b3.out) hn ?_); intro A2 hR2 hO2; have R3 := Lib.hid hR2; clear hR2 hO2)
  | (go_at_call 104; ((with_reducible refine (Hid.out HB w3.heap.size _ (new_rdr w3 q A2 (n - 4) (c - 4) _ R3.out)).mono ?_); rintro e w4 ⟨cs, rfl, hoc, hrd, hg4⟩; have O4 := Lib.hid hoc; have p4 := Lib.hid ((p3.out.alloc (.cells #[.int .i64 (q : Int), .slice A2 (n - 4) (c - 4)] 154)).grown hg4 (by have := p3.out.lt; intro e; injection e with e; omega)); have b4 : Hid (Below w.heap.size w w4) := Lib.hid ((b3.out.alloc b3.out.size _).grown hg4 (by simp; have := b3.out.size; omega) (fun p hp => by injection hp with hp; have := b3.out.size; omega)); have D4 := Lib.hid hrd; have hf13 := Lib.hid (fit13 hoc.len); clear hoc hrd hg4))
  | ((refine wpList_st rfl 58 (.tmp 8) (.tmp 40) rfl w4.heap.size 0 cs rfl rfl 58 zCtl (BlkV.new w4 _ _) hf13.out (rowCtl O4.out.len) O4.out.one ?_); intro w5 hB5 ho5; rw [splice_all _ _ (by rw [O4.out.len]; rfl)] at hB5; have B5 := Lib.hid hB5; have b45 : Hid (Below w4.heap.size w4 w5) := Lib.hid (((Below.refl _ _).alloc (Nat.le_refl _) _).trans (ho5.below (Nat.le_refl _))); obtain ⟨Ax, cx, hrest⟩ := (D4.out.below b45.out).none; have hfz := hB5.frozen 0; have cz := (hB5.cell 0).trans O4.out.k0; have O5 := Lib.hid (O4.out.below b45.out); have p5 := Lib.hid (p4.out.below b45.out p4.out.lt); have B6 := Lib.hid (B5.out.set_ 0 (.int .i64 3)); have R6 := Lib.hid (B6.out.range 0 (cs.set 0 (.int .i64 3)) (fun i _ => by rw [Nat.zero_add])); have L6 : Hid ((cs.set 0 (.int .i64 3)).length = 13) := Lib.hid (by rw [List.length_set]; exact O4.out.len); have O6 := Lib.hid ((O5.out.th (Only.set w5 w4.heap.size 0 (.int .i64 3)).grown (fun p hp => .inr ⟨_, _, by injection hp with hp; subst hp; exact B5.out⟩)).kind 3); have p6 := Lib.hid (p5.out.far (p := ⟨w4.heap.size, 0, none⟩) (by have := p4.out.lt; show w.heap.size ≠ w4.heap.size; omega) (.int .i64 3)); have F6 := Lib.hid (fit13 L6.out); have N6 := Lib.hid O6.out.one; clear hB5 ho5)
  | (with_reducible refine wpList_ld rfl 58 (.tmp 8) rfl w4.heap.size 0 rfl (cs.set 0 (.int .i64 3)) R6.out (rowCtl L6.out) ?_)
  | ((refine wpList_st rfl 58 (.tmp 2) (.tmp 48) rfl w.heap.size 0 (cs.set 0 (.int .i64 3)) rfl rfl 58 zCtl p6.out F6.out (rowCtl L6.out) N6.out ?_); intro w7 hB7 ho7; rw [splice_all _ _ (by rw [L6.out]; rfl)] at hB7))
 have hsz3 := b3.out.size
 have hsz4 := b4.out.size
 refine ret_row rfl rfl hB7 (rowCtl L6.out) rfl ?_
 exact ⟨_, rfl, (O6.out.th ho7.grown (fun p hp => .inl (by injection hp with hp; simp; omega))).mono (by simp; omega),
  (b4.out.trans (b45.out.mono hsz4)).trans (((Only.set w5 w4.heap.size 0 (.int .i64 3)).below hsz4).trans (ho7.below (Nat.le_refl _)))⟩

set_option maxRecDepth 100000 in
set_option maxHeartbeats 1000000 in
theorem packet_remb (A : Option Addr) (n c q s : Nat) (bs : List UInt8) (cc : Ctl) (w : World) (ht : Tab w) (hw : 0 < w.heap.size) (hr : RdS w A n c bs) (hn : 4 ≤ n) (hq : q < 32) (hs : s < 256) (h0 : (bs.getD 0 0).toNat = 128 + q) (h1 : (bs.getD 1 0).toNat = s) (hk : kindN s q = 4) (hB : BodyIs 105 q (bs.drop 4) cc) :
 Calls Tryz.prog 65 #[.slice A n c] w fun r w' => ∃ cs, r = .returned (.agg cs.toArray) ∧ OwnC w' w.heap.size cs { cc with k := 4 } ∧ Below w.heap.size w w' := by
 have hz := zeroCtl
 obtain ⟨b, off, rfl, hlt, hcl⟩ := hr.2.2.2.2 (by omega)
 have c0 := hcl 0 (by omega)
 have c1 := hcl 1 (by omega)
 rw [h0] at c0
 rw [h1] at c1
 have hs2 := hr.small
 have hle := hr.le
 obtain ⟨X, hX⟩ : ∃ X, X = 128 + q := ⟨_, rfl⟩
 rw [← hX] at c0
 have e1 : (X : Int) / 32 = 4 := hX ▸ (head_u8 q hq).1
 have e2 : bits .and .u8 (X : Int) 31 = (q : Int) := hX ▸ (head_u8 q hq).2
 have e3 : IntKind.i64.wrap (q : Int) = (q : Int) := by rw [IntKind.wrap_i64]; omega
 have e4 : IntKind.i64.wrap (s : Int) = (s : Int) := by rw [IntKind.wrap_i64]; omega
 have HR := Lib.hid hr
 have HT := Lib.hid ht
 have HK := Lib.hid hk
 have HB : Hid (∀ g w, Rdr w g q (bs.drop 4) → Calls Tryz.prog 105 #[.pointer (some ⟨g, 0, none⟩)] w fun r w' => ∃ cs, r = .returned (.agg cs.toArray) ∧ OwnC w' w.heap.size cs cc ∧ Rdr w' g q [] ∧ w.grownBy w' (some g)) := Lib.hid hB.2
 have bw : Hid (Below w.heap.size w (w.alloc (.cells zA 58))) := Lib.hid ((Below.refl _ _).alloc (Nat.le_refl _) _)
 have d0 : (w.alloc (.cells zA 58)).cell? ⟨b, off, none⟩ = some (.int .u8 (X : Int)) := (bw.out.cell (p := ⟨b, off, none⟩) hlt).trans c0
 have d1 : (w.alloc (.cells zA 58)).cell? ⟨b, off + 1, none⟩ = some (.int .u8 (s : Int)) := (bw.out.cell (p := ⟨b, off + 1, none⟩) hlt).trans c1
 have KN : Hid (∀ W, Below w.heap.size w W → Calls Tryz.prog 84 #[.int .i64 (s : Int), .int .i64 (q : Int)] W fun e w' => e = .returned (.int .i64 4) ∧ Below W.heap.size W w') := Lib.hid fun W hW => by
  have := kindOf_any s q s q rfl rfl W (HT.out.below hW hw) (Nat.lt_of_lt_of_le hw hW.size) hs hq
  rw [HK.out] at this
  exact this
 have BW : Hid (BlkV (w.alloc (.cells zA 58)) w.heap.size 58 zCtl) := Lib.hid (BlkV.new _ _ _)
 clear hcl c0 c1 hX hr ht hk hB h0 h1 hs
 go_enter Tryz.func65, Tryz.ntmps65
 go_wp2_with (first
  | (go_at_call 41; ((with_reducible refine (refuse_no _ _ _ ?_).mono ?_); (first | rfl | simp); rintro e wx ⟨rfl, rfl⟩))
  | (go_at_call 84; ((with_reducible refine (Hid.out KN _ bw.out).mono ?_); rintro e w2 ⟨rfl, hb2⟩; have b2 : Hid (Below w.heap.size w w2) := Lib.hid (bw.out.trans (hb2.mono bw.out.size)); have p2 := Lib.hid (BW.out.below hb2 BW.out.lt); clear hb2))
  | (go_at_call 85; ((with_reducible refine (bodies_any _).mono ?_); rintro e w3 ⟨rfl, hm3, hb3⟩; have b3 : Hid (Below w.heap.size w w3) := Lib.hid (b2.out.trans (hb3.mono b2.out.size)); have p3 := Lib.hid (p2.out.below hb3 p2.out.lt); have hlk := run_lkp w3 _ ent8 8 4 7 (.func (.func 105) #[] #[]) hm3 rfl rfl; clear hb3 hm3))
  | ((with_reducible refine wpList_cut rfl 32 (.tmp 36) (.const (.int .i64 4)) rfl undB szB (some ⟨b, off, none⟩) n c bs rfl 4 _ rfl rfl (HR.out.below b3.out) hn ?_); intro A2 hR2 hO2; have R3 := Lib.hid hR2; clear hR2 hO2)
  | (go_at_call 105; ((with_reducible refine (Hid.out HB w3.heap.size _ (new_rdr w3 q A2 (n - 4) (c - 4) _ R3.out)).mono ?_); rintro e w4 ⟨cs, rfl, hoc, hrd, hg4⟩; have O4 := Lib.hid hoc; have p4 := Lib.hid ((p3.out.alloc (.cells #[.int .i64 (q : Int), .slice A2 (n - 4) (c - 4)] 154)).grown hg4 (by have := p3.out.lt; intro e; injection e with e; omega)); have b4 : Hid (Below w.heap.size w w4) := Lib.hid ((b3.out.alloc b3.out.size _).grown hg4 (by simp; have := b3.out.size; omega) (fun p hp => by injection hp with hp; have := b3.out.size; omega)); have D4 := Lib.hid hrd; have hf13 := Lib.hid (fit13 hoc.len); clear hoc hrd hg4))
  | ((refine wpList_st rfl 58 (.tmp 8) (.tmp 40) rfl w4.heap.size 0 cs rfl rfl 58 zCtl (BlkV.new w4 _ _) hf13.out (rowCtl O4.out.len) O4.out.one ?_); intro w5 hB5 ho5; rw [splice_all _ _ (by rw [O4.out.len]; rfl)] at hB5; have B5 := Lib.hid hB5; have b45 : Hid (Below w4.heap.size w4 w5) := Lib.hid (((Below.refl _ _).alloc (Nat.le_refl _) _).trans (ho5.below (Nat.le_refl _))); obtain ⟨Ax, cx, hrest⟩ := (D4.out.below b45.out).none; have hfz := hB5.frozen 0; have cz := (hB5.cell 0).trans O4.out.k0; have O5 := Lib.hid (O4.out.below b45.out); have p5 := Lib.hid (p4.out.below b45.out p4.out.lt); have B6 := Lib.hid (B5.out.set_ 0 (.int .i64 4)); have R6 := Lib.hid (B6.out.range 0 (cs.set 0 (.int .i64 4)) (fun i _ => by rw [Nat.zero_add])); have L6 : Hid ((cs.set 0 (.int .i64 4)).length = 13) := Lib.hid (by rw [List.length_set]; exact O4.out.len); have O6 := Lib.hid ((O5.out.th (Only.set w5 w4.heap.size 0 (.int .i64 4)).grown (fun p hp => .inr ⟨_, _, by injection hp with hp; subst hp; exact B5.out⟩)).kind 4); have p6 := Lib.hid (p5.out.far (p := ⟨w4.heap.size, 0, none⟩) (by have := p4.out.lt; show w.heap.size ≠ w4.heap.size; omega) (.int .i64 4)); have F6 := Lib.hid (fit13 L6.out); have N6 := Lib.hid O6.out.one; clear hB5 ho5)
  | (with_reducible refine wpList_ld rfl 58 (.tmp 8) rfl w4.heap.size 0 rfl (cs.set 0 (.int .i64 4)) R6.out (rowCtl L6.out) ?_)
  | ((refine wpList_st rfl 58 (.tmp 2) (.tmp 48) rfl w.heap.size 0 (cs.set 0 (.int .i64 4)) rfl rfl 58 zCtl p6.out F6.out (rowCtl L6.out) N6.out ?_); intro w7 hB7 ho7; rw [splice_all _ _ (by rw [L6.out]; rfl)] at hB7))
 have hsz3 := b3.out.size
 have hsz4 := b4.out.size
 refine ret_row rfl rfl hB7 (rowCtl L6.out) rfl ?_
 exact ⟨_, rfl, (O6.out.th ho7.grown (fun p hp => .inl (by injection hp with hp; simp; omega))).mono (by simp; omega),
  (b4.out.trans (b45.out.mono hsz4)).trans (((Only.set w5 w4.heap.size 0 (.int .i64 4)).below hsz4).trans (ho7.below (Nat.le_refl _)))⟩

theorem elCtl : ElT 58 26 13 := elT (z := .agg zA) (by8 := 168) (by kernel_rfl) (by kernel_rfl) (by decide) rfl (by decide)
theorem own_typ {w : World} {base n s : Nat} {e : TypeId} {v : Value} {xs : List Value} (h : w.ownsRow base e s v n xs) : ∀ p, v.ownBlock = some p → ∃ (cur : Array Value) (fz : Nat × Nat), w.heap[p]? = some (.cells cur e fz) := by
 intro p hp
 rcases h.2 with ⟨rfl, _⟩ | ⟨g, cap, cur, rfl, _, hg, _⟩
 · simp [Value.ownBlock] at hp
 · simp [Value.ownBlock] at hp
   subst hp
   exact ⟨cur, _, hg⟩
def OwnCs (w : World) (b : Nat) (v : Value) (l : List Ctl) : Prop := ∃ css : List (List Value), w.ownsRow b 58 13 v l.length css.flatten ∧ css.length = l.length ∧ ∀ (i : Nat) (cs : List Value) (c : Ctl), css[i]? = some cs → l[i]? = some c → OwnC w b cs c
theorem OwnCs.below {w w' : World} {b : Nat} {v : Value} {l : List Ctl} (h : OwnCs w b v l) (hb : Below w.heap.size w w') : OwnCs w' b v l := by
 obtain ⟨css, h1, h2, h3⟩ := h
 exact ⟨css, own_thN h1 (grown_of_below hb none) (fun p hp => by cases hp), h2, fun i cs c hi hj => (h3 i cs c hi hj).below hb⟩
theorem OwnCs.nil (w : World) (b : Nat) : OwnCs w b (.slice none 0 0) [] := ⟨[], nilN _ _ _ _, rfl, fun i cs c h => by simp at h⟩
theorem OwnCs.mono {w : World} {b b2 : Nat} {v : Value} {l : List Ctl} (h : OwnCs w b v l) (hb : b2 ≤ b) : OwnCs w b2 v l := by
 obtain ⟨css, h1, h2, h3⟩ := h
 exact ⟨css, own_moN h1 hb, h2, fun i cs c hi hj => (h3 i cs c hi hj).mono hb⟩
theorem OwnCs.more {w w' : World} {b : Nat} {v v' : Value} {l : List Ctl} {css : List (List Value)} {cs : List Value} {c : Ctl} (h1 : w.ownsRow b 58 13 v l.length css.flatten) (h2 : css.length = l.length) (h3 : ∀ (i : Nat) (cs : List Value) (c : Ctl), css[i]? = some cs → l[i]? = some c → OwnC w b cs c) (hc : OwnC w b cs c)
 (hn : w'.ownsRow b 58 13 v' (l.length + 1) (css.flatten ++ cs)) (hg : w.grownBy w' v.ownBlock) : OwnCs w' b v' (l ++ [c]) := by
 have ht : ∀ p, v.ownBlock = some p → p < b ∨ ∃ (cur : Array Value) (fz : Nat × Nat), w.heap[p]? = some (.cells cur 58 fz) := fun p hp => .inr (own_typ h1 p hp)
 refine ⟨css ++ [cs], by simpa using hn, by simp [h2], fun i cs' c' hi hj => ?_⟩
 rcases Nat.lt_or_ge i css.length with h | h
 · rw [List.getElem?_append_left h] at hi
   rw [List.getElem?_append_left (by omega)] at hj
   exact (h3 i cs' c' hi hj).th hg ht
 · rw [List.getElem?_append_right h] at hi
   rw [List.getElem?_append_right (by omega), ← h2] at hj
   have h0 : i - css.length = 0 := by
    have := (List.getElem?_eq_some_iff.1 hi).1
    simp at this; omega
   rw [h0] at hi hj
   simp at hi hj
   subst hi; subst hj
   exact hc.th hg ht

def PacketIs (pb : List UInt8) (c : Ctl) : Prop := (∃ m, numb ((pb.drop 2).take 2) = m ∧ 4 + 4 * m = pb.length) ∧
 ∀ A n cc w, Tab w → 0 < w.heap.size → RdS w A n cc pb → Calls Tryz.prog 65 #[.slice A n cc] w fun r w' => ∃ cs, r = .returned (.agg cs.toArray) ∧ OwnC w' w.heap.size cs c ∧ Below w.heap.size w w'
theorem flat_drop {α : Type} (f : α → List UInt8) {L : List α} {k : Nat} (h : k < L.length) : (L.drop k).flatMap f = f L[k] ++ (L.drop (k + 1)).flatMap f := by
 rw [drop_at h, List.flatMap_cons]
set_option maxRecDepth 100000 in
set_option maxHeartbeats 1000000 in
theorem compound_ok (ps : List (List UInt8 × Ctl)) (A : Option Addr) (n c N : Nat) (w : World) (ht : Tab w) (hw : 0 < w.heap.size) (hN : N = ps.length) (h1 : 1 ≤ N) (h8 : N ≤ 8) (hps : ∀ p ∈ ps, PacketIs p.1 p.2) (hr : RdS w A n c (ps.flatMap (·.1))) :
 Calls Tryz.prog 42 #[.slice A n c] w fun r w' => ∃ A' c', r = .returned (.slice A' N c') ∧ OwnCs w' w.heap.size (.slice A' N c') (ps.map (·.2)) ∧ Below w.heap.size w w' := by
 have HP := Lib.hid hps
 have HN := Lib.hid hN
 have HT := Lib.hid ht
 have hpos : 0 < n := by
  have h2 := hr.len
  have h3 := flat_drop (fun p : List UInt8 × Ctl => p.1) (L := ps) (k := 0) (by omega)
  rw [List.drop_zero] at h3
  obtain ⟨⟨m, _, hm⟩, _⟩ := hps _ (List.getElem_mem (show 0 < ps.length by omega))
  rw [h3, List.length_append] at h2
  omega
 have hs := hr.small
 have HR := Lib.hid hr
 clear hps hN ht hr
 go_enter Tryz.func42, Tryz.ntmps42
 go_wp2_with (go_at_call 41; ((with_reducible refine (refuse_no _ _ _ ?_).mono ?_); (first | rfl | (simp; omega)); rintro e wx ⟨rfl, rfl⟩))
 go_loopw [0, 3] (fun vb v wr => ∃ (k : Nat) (Ab : Option Addr) (nb cb : Nat) (A' : Option Addr) (c' : Nat), k ≤ N ∧ vb = .slice Ab nb cb ∧ v = .slice A' k c' ∧ Hid (RdS wr Ab nb cb ((ps.drop k).flatMap (·.1)) ∧ OwnCs wr w.heap.size (.slice A' k c') ((ps.take k).map (·.2)) ∧ Below w.heap.size w wr ∧ LoN Ab nb w.heap.size)) (fun _ v _ => N - lenOf v)
 case atStart => exact ⟨0, A, n, c, none, 0, by omega, rfl, rfl, Lib.hid ⟨HR.out, OwnCs.nil _ _, Below.refl _ _, HR.out.lo (Nat.le_refl _)⟩⟩
 case round =>
  obtain ⟨k, Ab, nb, cb, A1, c1, hk, rfl, rfl, HL⟩ := hrel
  have hsm := HL.out.1.small
  have hlb := HL.out.1.len
  by_cases hkn : k < N
  · have hkl : k < ps.length := by rw [← HN.out]; exact hkn
    obtain ⟨⟨m, hm, hml⟩, hpk⟩ := HP.out _ (List.getElem_mem hkl)
    have hfd := flat_drop (fun p : List UInt8 × Ctl => p.1) hkl
    rw [hfd] at HL hlb
    have HV : Hid ((ps.take (k + 1)).map (·.2) = (ps.take k).map (·.2) ++ [ps[k].2]) := Lib.hid (by rw [List.take_add_one, List.getElem?_eq_getElem hkl, List.map_append]; rfl)
    obtain ⟨pb, hpb⟩ : ∃ pb, pb = ps[k].1 := ⟨_, rfl⟩
    obtain ⟨cc, hcc⟩ : ∃ cc, cc = ps[k].2 := ⟨_, rfl⟩
    obtain ⟨tl, htl⟩ : ∃ tl, tl = (ps.drop (k + 1)).flatMap (·.1) := ⟨_, rfl⟩
    rw [← hpb] at hm hml hpk HL hlb
    rw [← hcc] at hpk HV
    rw [← htl] at HL hlb
    have HTL := Lib.hid htl
    rw [List.length_append] at hlb
    have hm4 : 4 ≤ pb.length := by omega
    have hle : 4 + 4 * m ≤ nb := by omega
    have HM : Hid (numb (((pb ++ tl).drop 2).take 2) = m) := Lib.hid (by
     rw [List.drop_append_of_le_length (by omega), List.take_append_of_le_length (by rw [List.length_drop]; omega)]
     exact hm)
    have C1 := Lib.hid (size_ok Ab nb cb m _ wr HL.out.1 HM.out hle)
    have hle2 := HL.out.1.le
    have R2 : Hid (RdS wr Ab (4 + 4 * m) cb pb) := Lib.hid (by
     have := HL.out.1.headR (4 + 4 * m) hle
     rw [hml, List.take_left] at this
     rw [hml]; exact this)
    have CP := Lib.hid (hpk Ab (4 + 4 * m) cb wr (HT.out.below HL.out.2.2.1 hw) (Nat.lt_of_lt_of_le hw HL.out.2.2.1.size) R2.out)
    have hD := Lib.hid (show (pb ++ tl).drop (4 + 4 * m) = tl by rw [hml]; exact List.drop_left)
    obtain ⟨S, hS⟩ : ∃ S, S = 4 + 4 * m := ⟨_, rfl⟩
    rw [← hS] at C1 CP hD hle
    have hkk : ¬ k = 8 := by omega
    have hnb : 0 < nb := by omega
    have hsz := HL.out.2.2.1.size
    have hlk : ((ps.take k).map (·.2)).length = k := by simp; omega
    have HLK := Lib.hid hlk
    clear hpb hcc htl hm hml hpk hS HM hfd R2 hlb hlk
    go_wp2_with (first
     | (go_at_call 64; ((with_reducible refine (Hid.out C1).mono ?_); rintro e wx ⟨rfl, rfl⟩))
     | (go_at_call 41; ((with_reducible refine (refuse_no _ _ _ ?_).mono ?_); (first | rfl | (simp; omega)); rintro e wx ⟨rfl, rfl⟩))
     | (go_at_call 65; ((with_reducible refine (Hid.out CP).mono ?_); rintro e w2 ⟨cs, rfl, hoc, hb2⟩; obtain ⟨B1, d1, B2, d2, B3, d3, B4, d4, B5, d5, hcs, hh⟩ := hoc; subst hcs; have O2 : Hid (OwnC w2 wr.heap.size _ cc) := Lib.hid ⟨B1, d1, B2, d2, B3, d3, B4, d4, B5, d5, rfl, hh⟩; have L2 := Lib.hid (HL.out.2.1.below hb2); have b2 := Lib.hid (HL.out.2.2.1.trans (hb2.mono hsz)); have r2 := Lib.hid (HL.out.1.below hb2); simp only [ctlC]; obtain ⟨css, l1, l2, l3⟩ := L2.out; rw [HLK.out] at l1; have X1 := Lib.hid l1; have X2 := Lib.hid l2; have X3 := Lib.hid l3; have hsz2 := b2.out.size; clear hh hb2 l1 l2 l3))
     | (at_builtin; refine wpList_appV rfl (.tmp 18) (.tmp 23) elCtl rfl w.heap.size (.slice A1 k c1) k css.flatten rfl (X1.out.alloc _) w2.heap.size rfl (ctlC cc.k cc.so cc.me cc.ti cc.st cc.pa cc.oc (.slice B1 cc.reps.length d1) (.slice B2 cc.nams.length d2) (.slice B3 cc.srcs.length d3) (.slice B4 cc.loss.length d4) (.slice B5 cc.firs.length d5) cc.ra) rfl (ctlC_one _ _ _ _ _ _ _ _ _ _ _ _ _ _ _ _ _ _ _ _ _ _ _) (BlkV.new w2 58 (ctlC cc.k cc.so cc.me cc.ti cc.st cc.pa cc.oc (.slice B1 cc.reps.length d1) (.slice B2 cc.nams.length d2) (.slice B3 cc.srcs.length d3) (.slice B4 cc.loss.length d4) (.slice B5 cc.firs.length d5) cc.ra)) (by omega) (by simp; omega) ?_; intro v3 w3 hown3 hg3 _; obtain ⟨A3, c3, hv3⟩ := own_formN hown3; subst hv3; have N3 := Lib.hid hown3; have G3 := Lib.hid hg3; have r3 := Lib.hid ((r2.out.below ((Below.refl _ _).alloc (Nat.le_refl _) _)).keep hg3 (fun p hp => HL.out.2.2.2.off (X1.out.lt p hp).1)); clear hown3 hg3)
     | ((with_reducible refine wpList_cut rfl 32 (.tmp 25) (.tmp 26) rfl undB szB Ab nb cb _ rfl S _ rfl rfl r3.out hle ?_); intro A5 hR5 hO5))
    rw [hD.out] at hR5
    go_roundw
    case rel =>
     refine ⟨k + 1, A5, nb - S, cb - S, A3, c3, by omega, rfl, rfl, Lib.hid ⟨by rw [← HTL.out]; exact hR5, ?_, ?_, HL.out.2.2.2.of_off hO5 (by omega)⟩⟩
     · rw [HV.out]
       have hX : ∀ (n : Nat), ((ps.take k).map (·.2)).length = n → w3.ownsRow w.heap.size 58 13 (.slice A3 (k + 1) c3) (n + 1) (css.flatten ++ (ctlC cc.k cc.so cc.me cc.ti cc.st cc.pa cc.oc (.slice B1 cc.reps.length d1) (.slice B2 cc.nams.length d2) (.slice B3 cc.srcs.length d3) (.slice B4 cc.loss.length d4) (.slice B5 cc.firs.length d5) cc.ra)) := fun n hn => by rw [HLK.out] at hn; subst hn; exact N3.out
       refine OwnCs.more (w := w2.alloc _) (by rw [HLK.out]; exact X1.out.alloc _) X2.out (fun i cs c hi hj => (X3.out i cs c hi hj).below ((Below.refl _ _).alloc (Nat.le_refl _) _)) ((O2.out.below ((Below.refl _ _).alloc (Nat.le_refl _) _)).mono hsz) (hX _ rfl) G3.out
     · exact (b2.out.alloc b2.out.size _).grown G3.out (by simp; omega) (fun p hp => (X1.out.lt p hp).1)
    case measure => simp [lenOf]; omega
  · obtain rfl : k = N := by omega
    rw [show ps.drop k = [] by rw [HN.out, List.drop_length], show ps.take k = ps by rw [HN.out, List.take_length]] at HL
    have hn0 : nb = 0 := by have := HL.out.1.len; simp at this; exact this.symm
    subst hn0
    go_wp2
    go_ret
    exact ⟨A1, c1, rfl, HL.out.2.1, HL.out.2.2.1⟩
end Go.Proofs.YtheefckohnaceaaGreatDoor
