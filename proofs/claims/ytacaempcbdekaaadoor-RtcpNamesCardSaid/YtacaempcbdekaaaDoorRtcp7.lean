/- Contracts of package rtcp: a packet, by the contract of its body. No statement is proved here. -/
import Derived.Test.YtacaempcbdekaaaDoorRtcp6
namespace Go.Proofs.YtacaempcbdekaaaDoor
open Go.RowKit
set_option linter.unusedVariables false

theorem size_ok (A : Option Addr) (n c m : Nat) (bs : List UInt8) (w : World) (hr : RdS w A n c bs) (hm : numb ((bs.drop 2).take 2) = m) (hn : 4 + 4 * m ≤ n) :
    Calls Tryd.prog 36 #[.slice A n c] w fun e w' => e = .returned (.int .i64 ((4 + 4 * m : Nat) : Int)) ∧ w = w' := by
  have HN : Hid (Calls Tryd.prog 50 #[.slice A n c, .int .i64 2, .int .i64 2] w fun e w' => e = .returned (.tuple #[.int .u64 (m : Int), .bool true]) ∧ w = w') := Lib.hid (by
    have := num_yes A n c bs 2 2 w hr (by omega) (by omega) (by omega)
    rw [hm] at this
    exact this)
  have hs := hr.small
  have e1 : IntKind.i64.wrap (m : Int) = (m : Int) := by rw [IntKind.wrap_i64]; omega
  have e2 : IntKind.i64.wrap (4 * (m : Int)) = 4 * (m : Int) := by rw [IntKind.wrap_i64]; omega
  have e3 : IntKind.i64.wrap (4 + 4 * (m : Int)) = 4 + 4 * (m : Int) := by rw [IntKind.wrap_i64]; omega
  have e4 : ¬ (n : Int) < 4 + 4 * (m : Int) := by omega
  clear hr hm
  go_enter Tryd.func36, Tryd.ntmps36
  go_wp2_with (first
    | (go_at_call 50; ((with_reducible refine (Hid.out HN).mono ?_); rintro e w2 ⟨rfl, rfl⟩))
    | (go_at_call 24; ((with_reducible refine (refuse_no _ _ _ ?_).mono ?_); (first | rfl | (simp; omega)); rintro e w' ⟨rfl, rfl⟩)))
  go_ret
  exact ⟨by simp, rfl⟩

/-- What the function of a body tells, on these bytes. -/
def BodyIs (f : FuncId) (q : Nat) (body : List UInt8) (c : Ctl) : Prop := c.k = 0 ∧ ∀ g w, Rdr w g q body → Calls Tryd.prog f #[.pointer (some ⟨g, 0, none⟩)] w fun r w' => ∃ cs, r = .returned (.agg cs.toArray) ∧ OwnC w' w.heap.size cs c ∧ Rdr w' g q [] ∧ w.grownBy w' (some g)
theorem head_u8 (q : Nat) (h : q < 32) : ((128 + q : Nat) : Int) / 32 = 4 ∧ bits .and .u8 ((128 + q : Nat) : Int) 31 = (q : Int) := by
  refine ⟨by omega, ?_⟩
  have h2 : (128 + q) &&& 31 = q := by
    have h3 : (31 : Nat) = 2 ^ 5 - 1 := rfl
    rw [h3, Nat.and_two_pow_sub_one_eq_mod]; omega
  rw [show (31 : Int) = ((31 : Nat) : Int) from rfl, u8_and_nat _ _ (by omega) (by omega), h2]
theorem OwnC.kind {w : World} {b : Nat} {cs : List Value} {c : Ctl} (h : OwnC w b cs c) (k : Int) : OwnC w b (cs.set 0 (.int .i64 k)) { c with k := k } := by
  obtain ⟨A, a, B, b', C, c', D, d, E, e, h0, hh⟩ := h
  exact ⟨A, a, B, b', C, c', D, d, E, e, by rw [h0]; rfl, hh⟩
theorem OwnC.k0 {w : World} {b : Nat} {cs : List Value} {c : Ctl} (h : OwnC w b cs c) : cs[0]? = some (.int .i64 c.k) := by
  obtain ⟨A, a, B, b', C, c', D, d, E, e, h0, hh⟩ := h
  rw [h0]; rfl
theorem Rdr.none {w : World} {g q : Nat} (h : Rdr w g q []) : ∃ A c, w.cell? ⟨g, 1, none⟩ = some (.slice A 0 c) := by
  obtain ⟨A, n, c, h1, h2, _⟩ := h
  have := h2.len
  simp at this
  subst this
  exact ⟨A, c, (h1.cell 1).trans rfl⟩
theorem new_rdr (w : World) (q : Nat) (A : Option Addr) (n c : Nat) (bs : List UInt8) (hr : RdS w A n c bs) : Rdr (w.alloc (.cells #[.int .i64 (q : Int), .slice A n c] 99)) w.heap.size q bs :=
  ⟨A, n, c, BlkV.new_at _ _ _ _ _ rfl rfl, hr.below ((Below.refl _ _).alloc (Nat.le_refl _) _), hr.lo (Nat.le_refl _)⟩
theorem fit13 {cs : List Value} (h : cs.length = 13) : 0 + cs.length ≤ zCtl.length := by rw [h]; exact Nat.le_refl 13

set_option maxRecDepth 100000 in
set_option maxHeartbeats 1000000 in
theorem packet_received (A : Option Addr) (n c q s : Nat) (bs : List UInt8) (cc : Ctl) (w : World) (ht : Tab w) (hw : 0 < w.heap.size) (hr : RdS w A n c bs) (hn : 4 ≤ n) (hq : q < 32) (hs : s < 256) (h0 : (bs.getD 0 0).toNat = 128 + q) (h1 : (bs.getD 1 0).toNat = s) (hk : kindN s q = 201) (hB : BodyIs 57 q (bs.drop 4) cc) :
    Calls Tryd.prog 37 #[.slice A n c] w fun r w' => ∃ cs, r = .returned (.agg cs.toArray) ∧ OwnC w' w.heap.size cs { cc with k := 201 } ∧ Below w.heap.size w w' := by
  have hz := zeroCtl
  obtain ⟨b, off, rfl, hlt, hcl⟩ := hr.2.2.2.2 (by omega)
  have c0 := hcl 0 (by omega)
  have c1 := hcl 1 (by omega)
  rw [h0] at c0
  rw [h1] at c1
  have hs2 := hr.small
  have hle := hr.le
  obtain ⟨X, hX⟩ : ∃ X, X = 128 + q := ⟨_, rfl⟩
  rw [← hX] at c0
  have e1 : (X : Int) / 32 = 4 := hX ▸ (head_u8 q hq).1
  have e2 : bits .and .u8 (X : Int) 31 = (q : Int) := hX ▸ (head_u8 q hq).2
  have e3 : IntKind.i64.wrap (q : Int) = (q : Int) := by rw [IntKind.wrap_i64]; omega
  have e4 : IntKind.i64.wrap (s : Int) = (s : Int) := by rw [IntKind.wrap_i64]; omega
  have HR := Lib.hid hr
  have HT := Lib.hid ht
  have HK := Lib.hid hk
  have HB : Hid (∀ g w, Rdr w g q (bs.drop 4) → Calls Tryd.prog 57 #[.pointer (some ⟨g, 0, none⟩)] w fun r w' => ∃ cs, r = .returned (.agg cs.toArray) ∧ OwnC w' w.heap.size cs cc ∧ Rdr w' g q [] ∧ w.grownBy w' (some g)) := Lib.hid hB.2
  have bw : Hid (Below w.heap.size w (w.alloc (.cells zA 50))) := Lib.hid ((Below.refl _ _).alloc (Nat.le_refl _) _)
  have d0 : (w.alloc (.cells zA 50)).cell? ⟨b, off, none⟩ = some (.int .u8 (X : Int)) := (bw.out.cell (p := ⟨b, off, none⟩) hlt).trans c0
  have d1 : (w.alloc (.cells zA 50)).cell? ⟨b, off + 1, none⟩ = some (.int .u8 (s : Int)) := (bw.out.cell (p := ⟨b, off + 1, none⟩) hlt).trans c1
  have KN : Hid (∀ W, Below w.heap.size w W → Calls Tryd.prog 51 #[.int .i64 (s : Int), .int .i64 (q : Int)] W fun e w' => e = .returned (.int .i64 201) ∧ Below W.heap.size W w') := Lib.hid fun W hW => by
    have := kindOf_any s q s q rfl rfl W (HT.out.below hW hw) (Nat.lt_of_lt_of_le hw hW.size) hs hq
    rw [HK.out] at this
    exact this
  have BW : Hid (BlkV (w.alloc (.cells zA 50)) w.heap.size 50 zCtl) := Lib.hid (BlkV.new _ _ _)
  clear hcl c0 c1 hX hr ht hk hB h0 h1 hs
  go_enter Tryd.func37, Tryd.ntmps37
  go_wp2_with (first
    | (go_at_call 24; ((with_reducible refine (refuse_no _ _ _ ?_).mono ?_); (first | rfl | simp); rintro e wx ⟨rfl, rfl⟩))
    | (go_at_call 51; ((with_reducible refine (Hid.out KN _ bw.out).mono ?_); rintro e w2 ⟨rfl, hb2⟩; have b2 : Hid (Below w.heap.size w w2) := Lib.hid (bw.out.trans (hb2.mono bw.out.size)); have p2 := Lib.hid (BW.out.below hb2 BW.out.lt); clear hb2))
    | (go_at_call 52; ((with_reducible refine (bodies_any _).mono ?_); rintro e w3 ⟨rfl, hm3, hb3⟩; have b3 : Hid (Below w.heap.size w w3) := Lib.hid (b2.out.trans (hb3.mono b2.out.size)); have p3 := Lib.hid (p2.out.below hb3 p2.out.lt); have hlk := run_lkp w3 _ ent8 8 201 1 (.func (.func 57) #[] #[]) hm3 rfl rfl; clear hb3 hm3))
    | ((with_reducible refine wpList_cut rfl 25 (.tmp 36) (.const (.int .i64 4)) rfl undB szB (some ⟨b, off, none⟩) n c bs rfl 4 _ rfl rfl (HR.out.below b3.out) hn ?_); intro A2 hR2 hO2; have R3 := Lib.hid hR2; clear hR2 hO2)
    | (go_at_call 57; ((with_reducible refine (Hid.out HB w3.heap.size _ (new_rdr w3 q A2 (n - 4) (c - 4) _ R3.out)).mono ?_); rintro e w4 ⟨cs, rfl, hoc, hrd, hg4⟩; have O4 := Lib.hid hoc; have p4 := Lib.hid ((p3.out.alloc (.cells #[.int .i64 (q : Int), .slice A2 (n - 4) (c - 4)] 99)).grown hg4 (by have := p3.out.lt; intro e; injection e with e; omega)); have b4 : Hid (Below w.heap.size w w4) := Lib.hid ((b3.out.alloc b3.out.size _).grown hg4 (by simp; have := b3.out.size; omega) (fun p hp => by injection hp with hp; have := b3.out.size; omega)); have D4 := Lib.hid hrd; have hf13 := Lib.hid (fit13 hoc.len); clear hoc hrd hg4))
    | ((refine wpList_st rfl 50 (.tmp 8) (.tmp 40) rfl w4.heap.size 0 cs rfl rfl 50 zCtl (BlkV.new w4 _ _) hf13.out (rowCtl O4.out.len) O4.out.one ?_); intro w5 hB5 ho5; rw [splice_all _ _ (by rw [O4.out.len]; rfl)] at hB5; have B5 := Lib.hid hB5; have b45 : Hid (Below w4.heap.size w4 w5) := Lib.hid (((Below.refl _ _).alloc (Nat.le_refl _) _).trans (ho5.below (Nat.le_refl _))); obtain ⟨Ax, cx, hrest⟩ := (D4.out.below b45.out).none; have hfz := hB5.frozen 0; have cz := (hB5.cell 0).trans O4.out.k0; have O5 := Lib.hid (O4.out.below b45.out); have p5 := Lib.hid (p4.out.below b45.out p4.out.lt); have B6 := Lib.hid (B5.out.set_ 0 (.int .i64 201)); have R6 := Lib.hid (B6.out.range 0 (cs.set 0 (.int .i64 201)) (fun i _ => by rw [Nat.zero_add])); have L6 : Hid ((cs.set 0 (.int .i64 201)).length = 13) := Lib.hid (by rw [List.length_set]; exact O4.out.len); have O6 := Lib.hid ((O5.out.th (Only.set w5 w4.heap.size 0 (.int .i64 201)).grown (fun p hp => .inr ⟨_, _, by injection hp with hp; subst hp; exact B5.out⟩)).kind 201); have p6 := Lib.hid (p5.out.far (p := ⟨w4.heap.size, 0, none⟩) (by have := p4.out.lt; show w.heap.size ≠ w4.heap.size; omega) (.int .i64 201)); have F6 := Lib.hid (fit13 L6.out); have N6 := Lib.hid O6.out.one; clear hB5 ho5)
    | (with_reducible refine wpList_ld rfl 50 (.tmp 8) rfl w4.heap.size 0 rfl (cs.set 0 (.int .i64 201)) R6.out (rowCtl L6.out) ?_)
    | ((refine wpList_st rfl 50 (.tmp 2) (.tmp 48) rfl w.heap.size 0 (cs.set 0 (.int .i64 201)) rfl rfl 50 zCtl p6.out F6.out (rowCtl L6.out) N6.out ?_); intro w7 hB7 ho7; rw [splice_all _ _ (by rw [L6.out]; rfl)] at hB7))
  have hsz3 := b3.out.size
  have hsz4 := b4.out.size
  refine ret_row rfl rfl hB7 (rowCtl L6.out) rfl ?_
  exact ⟨_, rfl, (O6.out.th ho7.grown (fun p hp => .inl (by injection hp with hp; simp; omega))).mono (by simp; omega),
    (b4.out.trans (b45.out.mono hsz4)).trans (((Only.set w5 w4.heap.size 0 (.int .i64 201)).below hsz4).trans (ho7.below (Nat.le_refl _)))⟩

end Go.Proofs.YtacaempcbdekaaaDoor
