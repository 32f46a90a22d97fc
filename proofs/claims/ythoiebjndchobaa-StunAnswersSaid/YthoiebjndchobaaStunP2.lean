/- Contracts of package stun: the attribute that bytes begin with, and how many of them it takes. No statement is proved here. -/
import Derived.Test.YthoiebjndchobaaStunP1
namespace Go.Proofs.Ythoiebjndchobaa
open Go.RowKit
set_option linter.unusedVariables false

def zAttr : List Value := [.int .u16 0, .slice none 0 0]
theorem zAttr_one : ∀ u ∈ zAttr, u.oneCell' = true := by simp [zAttr, Value.oneCell']
theorem zeroAttr (w : World) : (zeroValue 47).run Try.prog w = .ok (.agg #[.int .u16 0, .slice none 0 0]) w := by kernel_rfl
theorem rowAttr {cs : List Value} (h : cs.length = 2) : RowTy Try.prog 47 cs.length := by
  rw [h]
  exact ⟨_, Try.underlying47, rfl, by kernel_rfl⟩
theorem attr_box (w : World) : BlkV (w.alloc (.cells #[.int .u16 0, .slice none 0 0] 47)) w.heap.size 47 zAttr := BlkV.new_at _ _ _ _ _ rfl rfl
theorem attr_below (w : World) : Below w.heap.size w (w.alloc (.cells #[.int .u16 0, .slice none 0 0] 47)) := (Below.refl _ _).alloc (Nat.le_refl _) _
/-- What is told of bytes that begin with no attribute. -/
def F12no (w : World) (e : Ending) (w' : World) : Prop := e = .returned (.tuple #[.agg #[.int .u16 0, .slice none 0 0], .int .i64 0, .bool false]) ∧ Below w.heap.size w w'
set_option maxRecDepth 100000 in
set_option maxHeartbeats 1000000 in
theorem first_short (A : Option Addr) (n c : Nat) (bs : List UInt8) (w : World) (hr : RdS w A n c bs) (h : n < 4) :
    Calls Try.prog 28 #[.slice A n c] w (F12no w) := by
  have hz := zeroAttr
  have HN := Lib.hid (num_no A n c bs 2 2 _ (hr.below (attr_below w)) (by omega))
  have HB := Lib.hid (attr_below w)
  have HX := Lib.hid (attr_box w)
  clear hr
  go_enter Try.func28, Try.ntmps28
  go_wp2_with (go_at_call 26; ((with_reducible refine (Hid.out HN).mono ?_); rintro e w' ⟨rfl, rfl⟩))
  exact ret_row3 rfl rfl HX.out (rowAttr rfl) rfl ⟨rfl, HB.out⟩
set_option maxRecDepth 100000 in
set_option maxHeartbeats 1000000 in
theorem first_no (A : Option Addr) (n c : Nat) (bs : List UInt8) (w : World) (hr : RdS w A n c bs) (hn : n ≤ 100000) (hno : ∀ x, ¬ HeadA bs x) :
    Calls Try.prog 28 #[.slice A n c] w (F12no w) := by
  by_cases h4 : n < 4
  · exact first_short A n c bs w hr h4
  have hz := zeroAttr
  have hl := hr.len
  have hle := hr.le
  have hs := hr.small
  have hr1 := hr.below (attr_below w)
  obtain ⟨q, hq⟩ : ∃ q, q = sizA bs := ⟨_, rfl⟩
  have hq2 : q < 65536 := by rw [hq]; exact numb2 _
  have HN : Hid (Calls Try.prog 26 #[.slice A n c, .int .i64 2, .int .i64 2] (w.alloc (.cells #[.int .u16 0, .slice none 0 0] 47)) fun e w' => e = .returned (.tuple #[.int .u64 (q : Int), .bool true]) ∧ w.alloc (.cells #[.int .u16 0, .slice none 0 0] 47) = w') := Lib.hid (by rw [hq]; exact num_yes A n c bs 2 2 _ hr1 (by omega) (by omega) (by omega))
  have HB := Lib.hid (attr_below w)
  have HX := Lib.hid (attr_box w)
  by_cases h255 : (255 : Int) < (q : Int)
  · clear hr hr1 hno hl
    go_enter Try.func28, Try.ntmps28
    go_wp2_with (go_at_call 26; ((with_reducible refine (Hid.out HN).mono ?_); rintro e w' ⟨rfl, rfl⟩))
    exact ret_row3 rfl rfl HX.out (rowAttr rfl) rfl ⟨rfl, HB.out⟩
  have ew : IntKind.i64.wrap (q : Int) = (q : Int) := by rw [IntKind.wrap_i64]; omega
  by_cases hend : (n : Int) < 4 + (q : Int)
  · clear hr hr1 hno hl
    go_enter Try.func28, Try.ntmps28
    go_wp2_with (go_at_call 26; ((with_reducible refine (Hid.out HN).mono ?_); rintro e w' ⟨rfl, rfl⟩))
    exact ret_row3 rfl rfl HX.out (rowAttr rfl) rfl ⟨rfl, HB.out⟩
  obtain ⟨E, hE⟩ : ∃ E, E = 4 + q := ⟨_, rfl⟩
  have hEi : 4 + (q : Int) = (E : Int) := by omega
  have hEn : E ≤ n := by omega
  obtain ⟨Z, hZ⟩ : ∃ Z, Z = E + lacks E 4 := ⟨_, rfl⟩
  have hlk := lacks_lt E 4 (by omega)
  have HF : Hid (Calls Try.prog 30 #[.slice A E c, .int .i64 4] (w.alloc (.cells #[.int .u16 0, .slice none 0 0] 47)) fun e w' => ∃ A', e = .returned (.slice A' Z Z) ∧ RdS w' A' Z Z (bs.take E ++ List.replicate (lacks E 4) 0) ∧ Below (w.alloc (.cells #[.int .u16 0, .slice none 0 0] 47)).heap.size (w.alloc (.cells #[.int .u16 0, .slice none 0 0] 47)) w') := Lib.hid ((fill_some A E c (bs.take E) 4 _ (hr1.headR E hEn) (by omega) (by omega) (by omega)).mono (fun e w' ⟨h1, h2, h3⟩ => ⟨some ⟨(w.alloc (.cells #[.int .u16 0, .slice none 0 0] 47)).heap.size, 0, none⟩, by rw [h1, hZ], h2.rd (by rw [List.length_append, List.length_take, List.length_replicate]; omega) (Nat.le_refl _) (by simp [maxLen]; omega), h3⟩))
  have HD : Hid (bs.take E ++ List.replicate (lacks E 4) 0 ≠ bs.take Z) := Lib.hid (fun h => hno _ (HeadA.mk (by omega) (by omega) (by omega) (by rw [← hq, ← hE, ← hZ]; exact h)))
  have HR1 := Lib.hid hr1
  have hZ9 : Z ≤ 100010 := by omega
  clear hr hr1 hno hl hE hZ hlk hq
  obtain ⟨XB, hXB⟩ : ∃ XB, XB = bs.take E ++ List.replicate (lacks E 4) 0 := ⟨_, rfl⟩
  rw [← hXB] at HF HD
  clear hXB
  by_cases hzn : (n : Int) < (Z : Int)
  · go_enter Try.func28, Try.ntmps28
    go_wp2_with (first
      | (go_at_call 26; ((with_reducible refine (Hid.out HN).mono ?_); rintro e w' ⟨rfl, rfl⟩))
      | (go_at_call 30; ((with_reducible refine (Hid.out HF).mono ?_); rintro e w2 ⟨A2, rfl, hB2, hb2⟩; have f2 := Lib.hid (HB.out.trans (hb2.mono HB.out.size)); have HX2 := Lib.hid (HX.out.below hb2 HX.out.lt); clear hB2 hb2))
      | ((with_reducible refine wpList_st rfl 47 (.tmp 2) (.tmp 48) rfl w.heap.size 0 zAttr rfl rfl 47 zAttr HX2.out (by simp [zAttr]) (rowAttr rfl) zAttr_one ?_); intro w5 hB5 ho5; rw [splice_all _ _ (by rfl)] at hB5; have f5 := Lib.hid (f2.out.trans (ho5.below (Nat.le_refl _))); have HB5 := Lib.hid hB5; clear hB5 ho5))
    exact ret_row3 rfl rfl HB5.out (rowAttr rfl) rfl ⟨rfl, f5.out⟩
  · have hZn : Z ≤ n := by omega
    have hND : false = decide (XB = bs.take Z) := by simp [HD.out]
    have HND := Lib.hid hND
    clear hND
    go_enter Try.func28, Try.ntmps28
    go_wp2_with (first
      | (go_at_call 26; ((with_reducible refine (Hid.out HN).mono ?_); rintro e w' ⟨rfl, rfl⟩))
      | (go_at_call 30; ((with_reducible refine (Hid.out HF).mono ?_); rintro e w2 ⟨A2, rfl, hB2, hb2⟩; have f2 := Lib.hid (HB.out.trans (hb2.mono HB.out.size)); have HX2 := Lib.hid (HX.out.below hb2 HX.out.lt); have HS2 : Hid (Calls Try.prog 33 #[.slice A2 Z Z, .slice A Z c] w2 fun e w' => e = .returned (.bool false) ∧ w2 = w') := Lib.hid (same_any _ _ _ XB _ _ _ (bs.take Z) w2 hB2 ((HR1.out.below hb2).headR Z hZn) false HND.out); clear hB2 hb2))
      | (go_at_call 33; ((with_reducible refine (Hid.out HS2).mono ?_); rintro e w' ⟨rfl, rfl⟩))
      | ((with_reducible refine wpList_st rfl 47 (.tmp 2) (.tmp 48) rfl w.heap.size 0 zAttr rfl rfl 47 zAttr HX2.out (by simp [zAttr]) (rowAttr rfl) zAttr_one ?_); intro w5 hB5 ho5; rw [splice_all _ _ (by rfl)] at hB5; have f5 := Lib.hid (f2.out.trans (ho5.below (Nat.le_refl _))); have HB5 := Lib.hid hB5; clear hB5 ho5))
    exact ret_row3 rfl rfl HB5.out (rowAttr rfl) rfl ⟨rfl, f5.out⟩
/-- What is told of bytes that begin with an attribute. -/
def F12 (x : Nat × List UInt8) (w : World) (e : Ending) (w' : World) : Prop := ∃ D d, e = .returned (.tuple #[.agg #[.int .u16 (x.1 : Int), .slice D x.2.length d], .int .i64 ((attB x).length : Int), .bool true]) ∧ w'.ownsRow w.heap.size 5 1 (.slice D x.2.length d) x.2.length (cells x.2) ∧ Below w.heap.size w w'
set_option maxRecDepth 100000 in
set_option maxHeartbeats 1000000 in
theorem first_yes (A : Option Addr) (n c : Nat) (bs : List UInt8) (x : Nat × List UInt8) (w : World) (hr : RdS w A n c bs) (hn : n ≤ 100000) (h : HeadA bs x) :
    Calls Try.prog 28 #[.slice A n c] w (F12 x w) := by
  have hz := zeroAttr
  have hl := hr.len
  have hle := hr.le
  have hs := hr.small
  have hr1 := hr.below (attr_below w)
  obtain ⟨h4, hx1, hsz, hx2, hat, -⟩ := h.parts
  obtain ⟨hEl, hlen, hfil⟩ := h.fill
  have hx3 := h.1
  have hx4 := h.2.1
  obtain ⟨x1, x2⟩ := x
  simp only at hx1 hsz hx2 hx3 hx4
  obtain ⟨q, hq⟩ : ∃ q, q = x2.length := ⟨_, rfl⟩
  rw [hsz, ← hq] at hEl hlen hfil
  rw [← hq] at hx2 hx4
  have HN : Hid (Calls Try.prog 26 #[.slice A n c, .int .i64 2, .int .i64 2] (w.alloc (.cells #[.int .u16 0, .slice none 0 0] 47)) fun e w' => e = .returned (.tuple #[.int .u64 (q : Int), .bool true]) ∧ w.alloc (.cells #[.int .u16 0, .slice none 0 0] 47) = w') := Lib.hid (by rw [hq, ← hsz]; exact num_yes A n c bs 2 2 _ hr1 (by omega) (by omega) (by omega))
  have HB := Lib.hid (attr_below w)
  have HX := Lib.hid (attr_box w)
  have h255 : ¬ (255 : Int) < (q : Int) := by omega
  have ew : IntKind.i64.wrap (q : Int) = (q : Int) := by rw [IntKind.wrap_i64]; omega
  have hend : ¬ (n : Int) < 4 + (q : Int) := by omega
  obtain ⟨E, hE⟩ : ∃ E, E = 4 + q := ⟨_, rfl⟩
  have hEi : 4 + (q : Int) = (E : Int) := by omega
  have hEn : E ≤ n := by omega
  obtain ⟨Z, hZ⟩ : ∃ Z, Z = (attB (x1, x2)).length := ⟨_, rfl⟩
  rw [← hE, ← hZ] at hlen
  rw [← hE, ← hZ] at hfil
  rw [← hZ] at hat
  have hzn : ¬ (n : Int) < (Z : Int) := by omega
  have hlk := lacks_lt E 4 (by omega)
  have HF : Hid (Calls Try.prog 30 #[.slice A E c, .int .i64 4] (w.alloc (.cells #[.int .u16 0, .slice none 0 0] 47)) fun e w' => ∃ A', e = .returned (.slice A' Z Z) ∧ RdS w' A' Z Z (bs.take Z) ∧ Below (w.alloc (.cells #[.int .u16 0, .slice none 0 0] 47)).heap.size (w.alloc (.cells #[.int .u16 0, .slice none 0 0] 47)) w') := Lib.hid ((fill_some A E c (bs.take E) 4 _ (hr1.headR E hEn) (by omega) (by omega) (by omega)).mono (fun e w' ⟨h1, h2, h3⟩ => ⟨some ⟨(w.alloc (.cells #[.int .u16 0, .slice none 0 0] 47)).heap.size, 0, none⟩, by rw [h1, hlen], by rw [← hfil]; exact h2.rd (by rw [List.length_append, List.length_take, List.length_replicate]; omega) (Nat.le_refl _) (by simp [maxLen]; omega), h3⟩))
  have hZ9 : Z ≤ 100010 := by omega
  have hZ4 : E ≤ Z := by omega
  obtain ⟨A4, hs4, hs4', hr4⟩ := run_sl w A n c bs 4 E 4 (E : Int) rfl rfl (by omega) hEn hr
  rw [show E - 4 = q by omega] at hs4 hs4' hr4
  rw [show (bs.drop 4).take q = x2 from hx2] at hr4
  have HR := Lib.hid hr
  have HR4 := Lib.hid hr4
  have HH := Lib.hid (hr.headR Z (by omega))
  have HQ := Lib.hid hq
  have HZ := Lib.hid hZ
  have HT : Hid (∀ W, Below w.heap.size w W → Calls Try.prog 17 #[.slice A n c, .int .i64 0, .int .i64 2] W fun e w' => e = .returned (.int .u64 (x1 : Int)) ∧ W = w') := Lib.hid (fun W hb => by
    have := number_any A n c bs 0 2 0 2 rfl rfl W (hr.below hb) (by omega) (by omega) (by omega)
    rw [List.drop_zero, hx1] at this
    exact this)
  have ew1 : IntKind.u16.wrap (x1 : Int) = (x1 : Int) := by rw [IntKind.wrap_u16]; omega
  clear hr hr1 hl hE hZ hlk hlen hfil hr4 hq hsz hx1 hx2 h
  go_enter Try.func28, Try.ntmps28
  go_wp2_with (first
    | (go_at_call 26; ((with_reducible refine (Hid.out HN).mono ?_); rintro e w' ⟨rfl, rfl⟩))
    | (go_at_call 30; ((with_reducible refine (Hid.out HF).mono ?_); rintro e w2 ⟨A2, rfl, hB2, hb2⟩; have f2 := Lib.hid (HB.out.trans (hb2.mono HB.out.size)); have HX2 := Lib.hid (HX.out.below hb2 HX.out.lt); have HS2 : Hid (Calls Try.prog 33 #[.slice A2 Z Z, .slice A Z c] w2 fun e w' => e = .returned (.bool true) ∧ w2 = w') := Lib.hid (same_any _ _ _ _ _ _ _ (bs.take Z) w2 hB2 (HH.out.below f2.out) true (by simp)); clear hB2 hb2))
    | (go_at_call 33; ((with_reducible refine (Hid.out HS2).mono ?_); rintro e w' ⟨rfl, rfl⟩))
    | (at_builtin; refine wpList_append_rd _ rfl (.const (.slice none 0 0)) (.tmp 51) rfl Try.underlying22 u8_info w.heap.size (.slice none 0 0) 0 [] rfl (World.ownsRow_nil _ _ _ _) A4 q (c - 4) x2 rfl (HR4.out.below f2.out) (by omega) f2.out.size ?_; intro v4 w4 hown hg _; rw [Nat.zero_add] at hown; obtain ⟨A5, c5, hv⟩ := own_formN hown; subst hv; have O4 := Lib.hid hown; have b4 := below_of_grown (B := w2.heap.size) hg (Nat.le_refl _) (fun k hk => by simp [Value.ownBlock] at hk); have f4 := Lib.hid (f2.out.trans (b4.mono f2.out.size)); have HX4 := Lib.hid (HX2.out.below b4 HX2.out.lt); have HT4 := Lib.hid (HT.out _ f4.out); clear hown hg b4)
    | (go_at_call 17; ((with_reducible refine (Hid.out HT4).mono ?_); rintro e w' ⟨rfl, rfl⟩))
    | ((with_reducible refine wpList_st rfl 47 (.tmp 2) (.tmp 57) rfl w.heap.size 0 [.int .u16 (x1 : Int), Value.slice A5 q c5] rfl rfl 47 zAttr HX4.out (by simp [zAttr]) (rowAttr rfl) (by simp [Value.oneCell']) ?_); intro w5 hB5 ho5; rw [splice_all _ _ (by rfl)] at hB5; have f5 := Lib.hid (f4.out.trans (ho5.below (Nat.le_refl _))); have HO5 := Lib.hid ho5; have HB5 := Lib.hid hB5; clear hB5 ho5))
  have hqq := HQ.out
  have hZZ := HZ.out
  subst hqq
  subst hZZ
  exact ret_row3 rfl rfl HB5.out (rowAttr rfl) rfl ⟨A5, c5, rfl, own_thN O4.out HO5.out.grown (fun p hp => .inr ⟨_, 47, _, by injection hp with hp; subst hp; exact HX4.out, by decide⟩), f5.out⟩
end Go.Proofs.Ythoiebjndchobaa
