/- The walk of the statement AvcPieces, over what package avc's Key tells. No statement is proved here. -/
import Derived.Test.YtbifgglhhhcacaaAvcL1
import Derived.Test.YtbifgglhhhcacaaCut
import Derived.Deep.DeepCutAuto
namespace Go.Proofs.Ytbifgglhhhcacaa
open Go.RowKit
set_option linter.unusedVariables false

theorem own_lit (w : World) (bs : List UInt8) (n base : Nat) (X : Array Value) (hX : X = (cells bs).toArray) (hn : bs.length = n) (hm : n ≤ 1000) (hb : base ≤ w.heap.size) : (w.alloc (.cells X 5)).ownsRow base 5 1 (.slice (some ⟨w.heap.size, 0, none⟩) n n) n (cells bs) := by
  have hB : Blk (w.alloc (.cells X 5)) w.heap.size 5 bs := Blk.new_at _ _ _ _ _ rfl hX
  exact hB.owns hn (by simp only [maxLen]; omega) hb
theorem isK_bits (T : Nat) : isK T = (((T : Int) == 5) || (((T : Int) == 7) || ((T : Int) == 8))) := by
  unfold isK
  by_cases h5 : T = 5
  · subst h5; rfl
  by_cases h7 : T = 7
  · subst h7; rfl
  by_cases h8 : T = 8
  · subst h8; rfl
  rw [decide_eq_false (by omega)]
  have e5 : ((T : Int) == 5) = false := by simp; omega
  have e7 : ((T : Int) == 7) = false := by simp; omega
  have e8 : ((T : Int) == 8) = false := by simp; omega
  rw [e5, e7, e8]; rfl
theorem ofNat_mod (x : Nat) (h : x < 256) : ((UInt8.ofNat x).toNat : Int) = (x : Int) := by rw [UInt8.toNat_ofNat']; omega
theorem u8_info4 : (Try.prog.info? 5).map (fun i => (i.zero, i.size, i.bytes)) = some (some (.int .u8 0), 1, 1) := by kernel_rfl
set_option maxRecDepth 100000 in
set_option maxHeartbeats 1000000 in
theorem avcPieces_core {T : World → Prop} (H : Tells14 T) (ty q n c : Nat) (A : Option Addr) (bs : List UInt8) (w : World) (hw : T w) (hty : ty < 256) (hq : q < 256) (hr : RdS w A n c bs) (hn : 2 ≤ n) (hn2 : n ≤ 1000) (b5 b7 b8 : Bool)
    (h5 : (((ty % 23 + 1 : Nat) : Int) == 5) = b5) (h7 : (((ty % 23 + 1 : Nat) : Int) == 7) = b7) (h8 : (((ty % 23 + 1 : Nat) : Int) == 8) = b8) (tv : Bool) (htv : isK (ty % 23 + 1) = tv) :
    Calls Try.prog 3 #[.int .u8 (ty : Int), .slice A n c, .int .u8 (q : Int)] w fun e w' => e = .returned (.bool true) ∧ Below w.heap.size w w' := by
  have HA := Lib.hid (alive14 H w hw)
  obtain ⟨t, ht⟩ : ∃ t, t = ty % 23 + 1 := ⟨_, rfl⟩
  rw [← ht] at h5 h7 h8 htv
  have ht1 : 1 ≤ t ∧ t ≤ 23 := by omega
  obtain ⟨t0, ht0⟩ : ∃ t0, t0 = ty % 23 := ⟨_, rfl⟩
  have m1 : Int.tmod (ty : Int) 23 = (t0 : Int) := by rw [Int.tmod_eq_emod_of_nonneg (by omega), ht0]; omega
  have m2 : IntKind.u8.wrap ((t0 : Int) + 1) = (t : Int) := by rw [IntKind.wrap_u8]; omega
  have m3 : IntKind.u8.wrap (128 + (t : Int)) = ((128 + t : Nat) : Int) := by rw [IntKind.wrap_u8]; omega
  have m4 : IntKind.u8.wrap (64 + (t : Int)) = ((64 + t : Nat) : Int) := by rw [IntKind.wrap_u8]; omega
  have hk : ∃ k : Nat, k = q % (n - 1) + 1 := ⟨_, rfl⟩
  obtain ⟨k, hk⟩ := hk
  obtain ⟨k0, hk0⟩ : ∃ k0 : Nat, k0 = q % (n - 1) := ⟨_, rfl⟩
  have hlt : q % (n - 1) < n - 1 := Nat.mod_lt _ (by omega)
  have m5 : Int.tmod (q : Int) ((n : Int) - 1) = (k0 : Int) := by rw [Int.tmod_eq_emod_of_nonneg (by omega), hk0, show (n : Int) - 1 = ((n - 1 : Nat) : Int) by omega]; rfl
  have m6 : (k0 : Int) + 1 = (k : Int) := by omega
  have hk1 : 1 ≤ k ∧ k < n := by omega
  have z1 : ((n : Int) - 1 = 0) = False := by simp; omega
  have Z1 := Lib.hid z1
  clear z1
  have hl := hr.len
  have hle := hr.le
  have hmx := hr.max
  obtain ⟨x, xs, hx⟩ : ∃ x xs, bs.take k = x :: xs := by
    match hb : bs.take k with
    | [] => have := congrArg List.length hb; rw [List.length_take, List.length_nil] at this; omega
    | x :: xs => exact ⟨x, xs, rfl⟩
  obtain ⟨y, ys, hy⟩ : ∃ y ys, bs.drop k = y :: ys := by
    match hb : bs.drop k with
    | [] => have := congrArg List.length hb; rw [List.length_drop, List.length_nil] at this; omega
    | x :: xs => exact ⟨x, xs, rfl⟩
  have kA : keyA ([28, UInt8.ofNat (128 + t)] ++ bs.take k) = tv := by rw [hx]; exact (keyA_piece 128 t (.inl rfl) ht1 x xs).trans (by simpa using htv)
  have kB : keyA ([28, UInt8.ofNat (64 + t)] ++ bs.drop k) = false := by rw [hy]; exact (keyA_piece 64 t (.inr rfl) ht1 y ys).trans (by simp)
  have kW : keyA ([UInt8.ofNat t] ++ bs) = tv := (keyA_whole t ht1 bs).trans htv
  have HR := Lib.hid hr
  have HH : Hid (∀ W, Below w.heap.size w W → RdS W A k c (bs.take k)) := Lib.hid (fun W hb => (hr.below hb).headR k (by omega))
  have HKY : Hid (∀ (W : World) (A : Option Addr) (m c : Nat) (B : List UInt8) (v : Bool), Below w.heap.size w W → RdS W A m c B → m ≤ 5000 → keyA B = v → Calls Try.prog 5 #[.slice A m c] W fun e w' => e = .returned (.bool v) ∧ Below W.heap.size W w') := Lib.hid (fun W A m c B v hb hr hm hv => by rw [← hv]; exact H.key A m c B W (H.keep _ _ hw hb) hr hm)
  have XA : #[Value.int .u8 28, .int .u8 ((128 + t : Nat) : Int)] = (cells [28, UInt8.ofNat (128 + t)]).toArray := by rw [← ofNat_mod (128 + t) (by omega)]; rfl
  have XB : #[Value.int .u8 28, .int .u8 ((64 + t : Nat) : Int)] = (cells [28, UInt8.ofNat (64 + t)]).toArray := by rw [← ofNat_mod (64 + t) (by omega)]; rfl
  have XW : #[Value.int .u8 (t : Int)] = (cells [UInt8.ofNat t]).toArray := by rw [← ofNat_mod t (by omega)]; rfl
  have HXA := Lib.hid XA
  have HXB := Lib.hid XB
  have HXW := Lib.hid XW
  have hni : ¬ (n : Int) < 2 := by omega
  have hni2 : ¬ (1000 : Int) < (n : Int) := by omega
  have HKA := Lib.hid kA
  have HKB := Lib.hid kB
  have HKW := Lib.hid kW
  have hk2 : k ≤ 1000 := by omega
  have hkc : k ≤ c := by omega
  have hkn : k ≤ n := by omega
  have etf : (tv == (b5 || (b7 || b8))) = true := by rw [← htv, isK_bits, h5, h7, h8]; simp
  obtain ⟨G1, hG1⟩ : ∃ G1, G1 = 128 + t := ⟨_, rfl⟩
  obtain ⟨G2, hG2⟩ : ∃ G2, G2 = 64 + t := ⟨_, rfl⟩
  rw [← hG1] at m3 HXA HKA
  rw [← hG2] at m4 HXB HKB
  clear H hr kA kB kW XA XB XW hx hy hl ht ht0 hk hk0 hlt hw hmx hty htv hG1 hG2
  have hu1 : 2 + k ≤ 140737488355328 := by omega
  have hu2 : 2 + (n - k) ≤ 140737488355328 := by omega
  have hu3 : 1 + n ≤ 140737488355328 := by omega
  have z1 := Z1.out
  clear Z1
  go_enter Try.func3, Try.ntmps3
  go_upto_region 10 with (first
    | (go_at_call 4; ((with_reducible refine (Hid.out HA).mono ?_); rintro e w1 ⟨rfl, hb1⟩; have f1 := Lib.hid hb1; have O1 := Lib.hid (own_lit w1 [28, UInt8.ofNat G1] 2 w.heap.size _ HXA.out rfl (by decide) hb1.size); have b1 := Lib.hid (hb1.alloc hb1.size (.cells #[.int .u8 28, .int .u8 (G1 : Int)] 5)); clear hb1))
    | (at_builtin; refine wpList_append_rd _ rfl (.tmp 34) (.tmp 37) rfl Try.underlying22 u8_info4 w.heap.size (.slice (some ⟨w1.heap.size, 0, none⟩) 2 2) 2 [28, UInt8.ofNat G1] rfl O1.out A k c (bs.take k) rfl (HH.out _ b1.out) hu1 b1.out.size ?_; intro v2 w2 hown hg _; obtain ⟨A3, c3, hv⟩ := own_formN hown; subst hv; have f2 := Lib.hid (b1.out.grown hg b1.out.size (fun p hp => (O1.out.lt p hp).1)); have R2 : Hid (RdS w2 A3 (2 + k) c3 ([28, UInt8.ofNat G1] ++ bs.take k)) := Lib.hid (RdS.of_own hown); have O2 := Lib.hid (own_lit w2 [28, UInt8.ofNat G2] 2 w.heap.size _ HXB.out rfl (by decide) f2.out.size); have b2 := Lib.hid (f2.out.alloc f2.out.size (.cells #[.int .u8 28, .int .u8 (G2 : Int)] 5)); clear hown hg)
    | ((with_reducible refine wpList_cut rfl 22 (.tmp 42) (.tmp 43) rfl undB szB A n c bs rfl k _ rfl rfl (HR.out.below b2.out) hkn ?_); intro A2 hr2 _; have HR2 := Lib.hid hr2; clear hr2)
    | (at_builtin; refine wpList_append_rd _ rfl (.tmp 41) (.tmp 44) rfl Try.underlying22 u8_info4 w.heap.size (.slice (some ⟨w2.heap.size, 0, none⟩) 2 2) 2 [28, UInt8.ofNat G2] rfl O2.out A2 (n - k) (c - k) (bs.drop k) rfl HR2.out hu2 b2.out.size ?_; intro v3 w3 hown hg _; obtain ⟨A4, c4, hv⟩ := own_formN hown; subst hv; have f3 := Lib.hid (b2.out.grown hg b2.out.size (fun p hp => (O2.out.lt p hp).1)); have R23 : Hid (RdS w3 A3 (2 + k) c3 ([28, UInt8.ofNat G1] ++ bs.take k)) := Lib.hid ((R2.out.below ((Below.refl _ _).alloc (Nat.le_refl _) _)).keep hg (fun p hp => (by simp only [Value.ownBlock, Option.some.injEq] at hp; subst hp; exact R2.out.off_lt (Nat.le_refl _)))); have R3 : Hid (RdS w3 A4 (2 + (n - k)) c4 ([28, UInt8.ofNat G2] ++ bs.drop k)) := Lib.hid (RdS.of_own hown); have O3 := Lib.hid (own_lit w3 [UInt8.ofNat t] 1 w.heap.size _ HXW.out rfl (by decide) f3.out.size); have b3 := Lib.hid (f3.out.alloc f3.out.size (.cells #[.int .u8 (t : Int)] 5)); clear hown hg)
    | (at_builtin; refine wpList_append_rd _ rfl (.tmp 47) (.tmp 48) rfl Try.underlying22 u8_info4 w.heap.size (.slice (some ⟨w3.heap.size, 0, none⟩) 1 1) 1 [UInt8.ofNat t] rfl O3.out A n c bs rfl (HR.out.below b3.out) hu3 b3.out.size ?_; intro v4 w4 hown hg _; obtain ⟨A5, c5, hv⟩ := own_formN hown; subst hv; have f4 := Lib.hid (b3.out.grown hg b3.out.size (fun p hp => (O3.out.lt p hp).1)); have R24 : Hid (RdS w4 A3 (2 + k) c3 ([28, UInt8.ofNat G1] ++ bs.take k)) := Lib.hid ((R23.out.below ((Below.refl _ _).alloc (Nat.le_refl _) _)).keep hg (fun p hp => (by simp only [Value.ownBlock, Option.some.injEq] at hp; subst hp; exact R23.out.off_lt (Nat.le_refl _)))); have R34 : Hid (RdS w4 A4 (2 + (n - k)) c4 ([28, UInt8.ofNat G2] ++ bs.drop k)) := Lib.hid ((R3.out.below ((Below.refl _ _).alloc (Nat.le_refl _) _)).keep hg (fun p hp => (by simp only [Value.ownBlock, Option.some.injEq] at hp; subst hp; exact R3.out.off_lt (Nat.le_refl _)))); have R4 : Hid (RdS w4 A5 (1 + n) c5 ([UInt8.ofNat t] ++ bs)) := Lib.hid (RdS.of_own hown); clear hown hg))
  have C1 := Lib.hid (HKY.out w4 A3 (2 + k) c3 _ tv f4.out R24.out (by omega) HKA.out)
  clear R2 R23 R3 O1 O2 O3 b1 b2 b3 f1 f2 f3
  cases b5 <;> cases b7 <;> cases b8 <;> cases tv <;> first
    | (exfalso; simp at etf; done)
    | (go_wp2_with (first
        | (go_at_call 5; ((with_reducible refine (Hid.out C1).mono ?_); rintro e w5 ⟨rfl, hb5⟩; clear C1; have f5 := Lib.hid (f4.out.trans (hb5.mono f4.out.size)); have C2 := Lib.hid (HKY.out w5 A4 (2 + (n - k)) c4 _ false f5.out (R34.out.below hb5) (by omega) HKB.out); have S5 := Lib.hid (R24.out.below hb5); have V5 := Lib.hid (R4.out.below hb5); clear hb5))
        | (go_at_call 5; ((with_reducible refine (Hid.out C2).mono ?_); rintro e w6 ⟨rfl, hb6⟩; clear C2; have f6 := Lib.hid (f5.out.trans (hb6.mono f5.out.size)); have C3 := Lib.hid (HKY.out w6 A5 (1 + n) c5 _ _ f6.out (V5.out.below hb6) (by omega) HKW.out); have S6 := Lib.hid (S5.out.below hb6); clear hb6))
        | (go_at_call 5; ((with_reducible refine (Hid.out C3).mono ?_); rintro e w7 ⟨rfl, hb7⟩; clear C3; have f7 := Lib.hid (f6.out.trans (hb7.mono f6.out.size)); have C4 := Lib.hid (HKY.out w7 A3 (2 + k) c3 _ _ f7.out (S6.out.below hb7) (by omega) HKA.out); clear hb7))
        | (go_at_call 5; ((with_reducible refine (Hid.out C4).mono ?_); rintro e w8 ⟨rfl, hb8⟩; clear C4; have f8 := Lib.hid (f7.out.trans (hb8.mono f7.out.size)); clear hb8)))
       go_ret
       exact ⟨rfl, f8.out⟩)
set_option maxRecDepth 100000 in
set_option maxHeartbeats 1000000 in
theorem avcPieces_else {T : World → Prop} (H : Tells14 T) (ty q n c : Nat) (A : Option Addr) (w : World) (hw : T w) (hn : n < 2 ∨ 1000 < n) :
    Calls Try.prog 3 #[.int .u8 (ty : Int), .slice A n c, .int .u8 (q : Int)] w fun e w' => e = .returned (.bool true) ∧ Below w.heap.size w w' := by
  have HA := Lib.hid (alive14 H w hw)
  clear H hw
  rcases hn with hn | hn
  · have h1 : (n : Int) < 2 := by omega
    clear hn
    go_enter Try.func3, Try.ntmps3
    go_wp2_with (go_at_call 4; ((with_reducible refine (Hid.out HA).mono ?_); rintro e w1 ⟨rfl, hb1⟩; have f1 := Lib.hid hb1; clear hb1))
    go_ret
    exact ⟨rfl, f1.out⟩
  · have h1 : ¬ (n : Int) < 2 := by omega
    have h2 : (1000 : Int) < (n : Int) := by omega
    clear hn
    go_enter Try.func3, Try.ntmps3
    go_wp2_with (go_at_call 4; ((with_reducible refine (Hid.out HA).mono ?_); rintro e w1 ⟨rfl, hb1⟩; have f1 := Lib.hid hb1; clear hb1))
    go_ret
    exact ⟨rfl, f1.out⟩
theorem avcPieces_walkP {T : World → Prop} (H : Tells14 T) (ty q n c : Nat) (A : Option Addr) (bs : List UInt8) (w : World) (hw : T w) (hty : ty < 256) (hq : q < 256) (hr : RdS w A n c bs) :
    Calls Try.prog 3 #[.int .u8 (ty : Int), .slice A n c, .int .u8 (q : Int)] w fun e w' => e = .returned (.bool true) ∧ Below w.heap.size w w' := by
  by_cases h : n < 2 ∨ 1000 < n
  · exact avcPieces_else H ty q n c A w hw h
  · exact avcPieces_core H ty q n c A bs w hw hty hq hr (by omega) (by omega) _ _ _ rfl rfl rfl _ rfl
/-- The same with numbers as they come in. -/
theorem avcPieces_walkI {T : World → Prop} (H : Tells14 T) (ty q : Int) (n c : Nat) (A : Option Addr) (bs : List UInt8) (w : World) (hw : T w) (hty : (Lit.int .u8 ty).wf = true) (hq : (Lit.int .u8 q).wf = true) (hr : RdS w A n c bs) :
    Calls Try.prog 3 #[.int .u8 ty, .slice A n c, .int .u8 q] w fun e w' => e = .returned (.bool true) ∧ Below w.heap.size w w' := by
  have hb1 := bounds_u8 hty
  have hb2 := bounds_u8 hq
  obtain ⟨a, rfl⟩ : ∃ a : Nat, ty = a := ⟨ty.toNat, by omega⟩
  obtain ⟨b, rfl⟩ : ∃ b : Nat, q = b := ⟨q.toNat, by omega⟩
  exact avcPieces_walkP H a b n c A bs w hw (by omega) (by omega) hr
end Go.Proofs.Ytbifgglhhhcacaa
