/- Contracts of package rewrite: a rewriter's block, does it follow, Start, High, where a source begins, Follow. No statement is proved here. -/
import Derived.Test.YtjlfokfdieafeaaRewP1
import Derived.Test.YtjlfokfdieafeaaRewL1
namespace Go.Proofs.Ytjlfokfdieafeaa
open Go.RowKit
set_option linter.unusedVariables false

def upS (b : Bool) (x : Mpd) : Mpd := if b then ⟨x.i + 1, x.st, x.pc⟩ else mz
def thS (s : Wtr) : Mpd := upS s.fol s.th
def heS (s : Wtr) : Mpd := upS s.fol s.he
def toS (s : Wtr) : Mpd := if topW s < 0 then mz else ⟨(s.O.getD (topW s).toNat mz).i + 1, (s.O.getD (topW s).toNat mz).st, (s.O.getD (topW s).toNat mz).pc⟩
/-- A rewriter's cells. -/
def rwc (f : Int) (t h o : Mpd) : List Value := [.int .i64 f, .int .u64 t.i, .int .u32 t.st, .int .u16 t.pc, .int .u64 h.i, .int .u32 h.st, .int .u16 h.pc, .int .u64 o.i, .int .u32 o.st, .int .u16 o.pc]
/-- Block g is the rewriter. -/
structure PRew (w : World) (g : Nat) (s : Wtr) : Prop where
  blk : BlkV w g 32 (rwc s.first (thS s) (heS s) (toS s))
  th : s.fol = true → 0 ≤ s.th.i
  top : (toS s).i ≤ 9223372036854775808
def T22 (w : World) (v : Value) (s : Wtr) (F : Nat → Prop) : Prop := ∃ g, v = .pointer (some ⟨g, 0, none⟩) ∧ PRew w g s ∧ ∀ k, F k ↔ k = g
theorem lone22 : Lone T22 where
  low := fun w p s F ⟨g, _, h, hF⟩ k hk => by rw [(hF k).1 hk]; exact h.blk.lt
  stay := fun w w2 p s F ⟨g, h0, h, hF⟩ hz hk => ⟨g, h0, ⟨(hk g ((hF g).2 rfl)).trans h.blk, h.th, h.top⟩, hF⟩
theorem neRM : (35 : TypeId) ≠ 32 := by decide
theorem rowSo : RowTy Try.prog 30 6 := ⟨_, Try.underlying30, rfl, by kernel_rfl⟩
theorem neq_yes22 (a b c d e f : Int) (h : a ≠ 0) (w : World) : (binOp .neq 30 (.agg #[.int .u64 a, .int .u32 b, .int .u16 c, .int .u64 d, .int .u32 e, .int .u16 f]) (.agg #[.int .u64 0, .int .u32 0, .int .u16 0, .int .u64 0, .int .u32 0, .int .u16 0])).run Try.prog w = .ok (.bool true) w := by
  have h1 : decide (a = 0) = false := by simpa using h
  rw [run_neq_struct]
  go_simp
theorem neq_no22 (w : World) : (binOp .neq 30 (.agg #[.int .u64 0, .int .u32 0, .int .u16 0, .int .u64 0, .int .u32 0, .int .u16 0]) (.agg #[.int .u64 0, .int .u32 0, .int .u16 0, .int .u64 0, .int .u32 0, .int .u16 0])).run Try.prog w = .ok (.bool false) w := by
  rw [run_neq_struct]
  go_simp
theorem eql_no22 (a b c : Int) (h : a ≠ 0) (w : World) : (binOp .eql 28 (.agg #[.int .u64 a, .int .u32 b, .int .u16 c]) (.agg #[.int .u64 0, .int .u32 0, .int .u16 0])).run Try.prog w = .ok (.bool false) w := by
  have h1 : decide (a = 0) = false := by simpa using h
  rw [run_eql_struct]
  go_simp
theorem eql_yes22 (w : World) : (binOp .eql 28 (.agg #[.int .u64 0, .int .u32 0, .int .u16 0]) (.agg #[.int .u64 0, .int .u32 0, .int .u16 0])).run Try.prog w = .ok (.bool true) w := by
  rw [run_eql_struct]
  go_simp
theorem zSo (wx : World) : (zeroValue 30).run Try.prog wx = .ok (.agg #[.int .u64 0, .int .u32 0, .int .u16 0, .int .u64 0, .int .u32 0, .int .u16 0]) wx := by kernel_rfl
theorem zSp (wx : World) : (zeroValue 28).run Try.prog wx = .ok (.agg #[.int .u64 0, .int .u32 0, .int .u16 0]) wx := by kernel_rfl
theorem zMp (wx : World) : (zeroValue 35).run Try.prog wx = .ok (.agg #[.int .i64 0, .int .u32 0, .int .u16 0]) wx := by kernel_rfl
theorem zWr (wx : World) : (zeroValue 32).run Try.prog wx = .ok (.agg #[.int .i64 0, .int .u64 0, .int .u32 0, .int .u16 0, .int .u64 0, .int .u32 0, .int .u16 0, .int .u64 0, .int .u32 0, .int .u16 0]) wx := by kernel_rfl
/-- Does it follow a source? -/
theorem follows_any22 (g : Nat) (s : Wtr) (w : World) (h : PRew w g s) :
    Calls Try.prog 14 #[.pointer (some ⟨g, 0, none⟩)] w fun e w' => e = .returned (.bool s.fol) ∧ w' = w := by
  have c1 : w.cell? ⟨g, 1, none⟩ = some (.int .u64 (thS s).i) := (h.blk.cell 1).trans rfl
  have c2 : w.cell? ⟨g, 2, none⟩ = some (.int .u32 (thS s).st) := (h.blk.cell 2).trans rfl
  have c3 : w.cell? ⟨g, 3, none⟩ = some (.int .u16 (thS s).pc) := (h.blk.cell 3).trans rfl
  have c4 : w.cell? ⟨g, 4, none⟩ = some (.int .u64 (heS s).i) := (h.blk.cell 4).trans rfl
  have c5 : w.cell? ⟨g, 5, none⟩ = some (.int .u32 (heS s).st) := (h.blk.cell 5).trans rfl
  have c6 : w.cell? ⟨g, 6, none⟩ = some (.int .u16 (heS s).pc) := (h.blk.cell 6).trans rfl
  have gl := h.blk.lt
  have hth := h.th
  obtain ⟨fi, fo, th, hh, O⟩ := s
  unfold thS upS at c1 c2 c3
  unfold heS upS at c4 c5 c6
  clear h
  cases fo with
  | false =>
    simp only [Bool.false_eq_true, if_false, mz] at c1 c2 c3 c4 c5 c6
    have hE := neq_no22
    have hz := zSo
    clear hth
    go_enter Try.func14, Try.ntmps14
    go_wp2
    go_ret
    exact ⟨rfl, rfl⟩
  | true =>
    simp only [if_true] at c1 c2 c3 c4 c5 c6
    have hn : th.i + 1 ≠ 0 := by have := hth rfl; simp only at this; omega
    have hE := fun wx => neq_yes22 (th.i + 1) th.st th.pc (hh.i + 1) hh.st hh.pc hn wx
    have hz := zSo
    clear hth
    go_enter Try.func14, Try.ntmps14
    go_wp2
    go_ret
    exact ⟨rfl, rfl⟩
/-- Start. -/
theorem start_any22 (g : Nat) (s : Wtr) (f : Int) (w : World) (h : PRew w g s) (hf : -9223372036854775808 ≤ f ∧ f ≤ 9223372036854775807) :
    Calls Try.prog 7 #[.pointer (some ⟨g, 0, none⟩), .int .i64 f] w fun e w' => e = .returned (.tuple #[]) ∧ Hid (PRew w' g (staW s f) ∧ Only g w w') := by
  have HF := Lib.hid (follows_any22 g s w h)
  have HH := Lib.hid h
  have gl := h.blk.lt
  have f0 := h.blk.frozen 0
  have c0 : w.cell? ⟨g, 0, none⟩ = some (.int .i64 s.first) := (h.blk.cell 0).trans rfl
  clear h
  by_cases h1 : f < 0
  · have HE : Hid (staW s f = s) := Lib.hid (by unfold staW; rw [if_pos (.inl h1)])
    go_enter Try.func7, Try.ntmps7
    go_wp2
    exact bodyPost_ret (results_none rfl _ _ _) rfl ⟨rfl, Lib.hid (by rw [HE.out]; exact ⟨HH.out, Only.refl _ _⟩)⟩
  · have hd : decide (f < 0) = false := by simpa using h1
    by_cases h2 : s.fol = true
    · have HE : Hid (staW s f = s) := Lib.hid (by unfold staW; rw [if_pos (.inr h2)])
      rw [h2] at HF
      go_enter Try.func7, Try.ntmps7
      go_wp2_with (go_at_call 14; ((with_reducible refine (Hid.out HF).mono ?_); rintro e w1 ⟨rfl, rfl⟩))
      exact bodyPost_ret (results_none rfl _ _ _) rfl ⟨rfl, Lib.hid (by rw [HE.out]; exact ⟨HH.out, Only.refl _ _⟩)⟩
    · have h3 : s.fol = false := by simpa using h2
      have HE : Hid (PRew (w.setCell ⟨g, 0, none⟩ (.int .i64 f)) g (staW s f)) := Lib.hid (by
        unfold staW
        rw [if_neg (by rw [h3]; simp; omega)]
        exact ⟨HH.out.blk.set_ 0 _, fun e => (by rw [h3] at e; cases e), HH.out.top⟩)
      rw [h3] at HF
      go_enter Try.func7, Try.ntmps7
      go_wp2_with (go_at_call 14; ((with_reducible refine (Hid.out HF).mono ?_); rintro e w1 ⟨rfl, rfl⟩))
      go_end0
      exact ⟨rfl, Lib.hid ⟨HE.out, Only.set _ _ _ _⟩⟩
theorem high_any22 (g : Nat) (s : Wtr) (B : Int) (w : World) (h : PRew w g s) (hk : OkW s B) :
    Calls Try.prog 12 #[.pointer (some ⟨g, 0, none⟩)] w fun e w' => e = .returned (.int .i64 (highW s)) ∧ Hid (Below w.heap.size w w') := by
  have c7 : w.cell? ⟨g, 7, none⟩ = some (.int .u64 (toS s).i) := (h.blk.cell 7).trans rfl
  have c8 : w.cell? ⟨g, 8, none⟩ = some (.int .u32 (toS s).st) := (h.blk.cell 8).trans rfl
  have c9 : w.cell? ⟨g, 9, none⟩ = some (.int .u16 (toS s).pc) := (h.blk.cell 9).trans rfl
  have gl := h.blk.lt
  have ht : (0 ≤ (toS s).i ∧ (toS s).i ≤ 9223372036854775808) ∧ (toS s).i - 1 = highW s := by
    have htp := h.top
    unfold toS at htp
    unfold toS highW
    rcases topW_facts s with ⟨h1, h2⟩ | ⟨m, h1, h2, _⟩
    · rw [h1, if_pos (by omega), if_pos (by omega)]; simp [mz]
    · rw [h1, if_neg (by omega), if_neg (by omega), Int.toNat_natCast]
      have ht : s.O.getD m mz ∈ s.O := by
        have e : s.O.getD m mz = s.O[m] := by simp [List.getD, h2]
        rw [e]; exact List.getElem_mem h2
      have hb := hk.O _ ht
      rw [h1, if_neg (by omega), Int.toNat_natCast] at htp
      simp only at htp ⊢
      omega
  have F0 : ∀ (a b c : Int) (wx : World), (Instr.field 35 (.agg #[.int .i64 a, .int .u32 b, .int .u16 c]) 0).run Try.prog wx = .ok (.int .i64 a) wx := fun _ _ _ _ => by kernel_rfl
  have HM := Lib.hid (mapped_any22 (toS s) w ht.1)
  rw [ht.2] at HM
  clear h ht
  go_enter Try.func12, Try.ntmps12
  go_wp2_with (go_at_call 17; ((with_reducible refine (Hid.out HM).mono ?_); rintro e w1 ⟨rfl, HB1⟩))
  go_ret
  exact ⟨rfl, HB1⟩
theorem toS_is {s : Wtr} {B : Int} (hk : OkW s B) : (topW s < 0 ∧ toS s = mz ∧ hereW s = ⟨s.first, 0, 0⟩) ∨ (¬ topW s < 0 ∧ ((0 < (toS s).i ∧ (toS s).i ≤ B) ∧ (0 ≤ (toS s).st ∧ (toS s).st < 4294967296) ∧ 0 ≤ (toS s).pc ∧ (toS s).pc < 32768) ∧ hereW s = ⟨(toS s).i, ((toS s).st + 3000) % 4294967296, ((toS s).pc + 1) % 32768⟩) := by
  unfold toS hereW
  rcases topW_facts s with ⟨h1, h2⟩ | ⟨m, h1, h2, _⟩
  · rw [h1]; exact .inl ⟨by omega, if_pos (by omega), if_pos (by omega)⟩
  · rw [h1, if_neg (by omega), if_neg (by omega), Int.toNat_natCast]
    have ht : s.O.getD m mz ∈ s.O := by
      have e : s.O.getD m mz = s.O[m] := by simp [List.getD, h2]
      rw [e]; exact List.getElem_mem h2
    have hb := hk.O _ ht
    refine .inr ⟨by omega, ?_, rfl⟩
    simp only
    omega
/-- Where a source begins that is followed now. -/
theorem begin_any22 (g : Nat) (s : Wtr) (B : Int) (w : World) (h : PRew w g s) (hk : OkW s B) (hB : B ≤ 9223372036854775807) :
    Calls Try.prog 18 #[.pointer (some ⟨g, 0, none⟩)] w fun e w' => e = .returned (.agg #[.int .u64 ((hereW s).i + 1), .int .u32 (hereW s).st, .int .u16 (hereW s).pc]) ∧ Hid (Below w.heap.size w w') := by
  have c0 : w.cell? ⟨g, 0, none⟩ = some (.int .i64 s.first) := (h.blk.cell 0).trans rfl
  have c7 : w.cell? ⟨g, 7, none⟩ = some (.int .u64 (toS s).i) := (h.blk.cell 7).trans rfl
  have c8 : w.cell? ⟨g, 8, none⟩ = some (.int .u32 (toS s).st) := (h.blk.cell 8).trans rfl
  have c9 : w.cell? ⟨g, 9, none⟩ = some (.int .u16 (toS s).pc) := (h.blk.cell 9).trans rfl
  have gl := h.blk.lt
  have hz1 := zSp
  have hz2 := zMp
  have kf := hk.first
  rcases toS_is hk with ⟨h0, h1, h2⟩ | ⟨h0, h1, h2⟩
  · rw [h1] at c7 c8 c9
    rw [h2]
    simp only [mz] at c7 c8 c9
    have hE := eql_yes22
    have HM := Lib.hid (fun wx => spotOf_any ⟨s.first, 0, 0⟩ wx (by simp only; omega))
    clear h hk h1 h2 h0
    have hf := Lib.hid kf
    clear kf
    go_enter Try.func18, Try.ntmps18
    go_wp2_with (first
      | (go_at_call 15; ((with_reducible refine (Hid.out HM _).mono ?_); rintro e w1 ⟨rfl, HB1⟩; have HB9 : Hid (BlkV w1 w.heap.size 28 [.int .u64 0, .int .u32 0, .int .u16 0] ∧ Below w.heap.size w w1) := Lib.hid ⟨(BlkV.new w 28 _).below HB1.out (by simp), (twoN w _).trans (HB1.out.mono (by simp))⟩))
      | ((refine wpList_st rfl 28 (.tmp 2) (.tmp 14) rfl w.heap.size 0 [.int .u64 (s.first + 1), .int .u32 0, .int .u16 0] rfl rfl 28 _ HB9.out.1 (Nat.le_of_eq rfl) rowSp (by simp [Value.oneCell']) ?_); intro w7 hB7 ho7; rw [splice_all _ _ (by rfl)] at hB7))
    exact ret_row (by rfl) (by rfl) hB7 rowSp (by rfl) ⟨rfl, Lib.hid (HB9.out.2.trans (ho7.below (Nat.le_refl _)))⟩
  · have hE := fun wx => eql_no22 (toS s).i (toS s).st (toS s).pc (by omega) wx
    have HM := Lib.hid (fun wx => next_any22 (toS s) wx (by omega))
    have HH := Lib.hid h2
    clear h hk h1 h2 h0
    have hf := Lib.hid kf
    clear kf
    go_enter Try.func18, Try.ntmps18
    go_wp2_with (first
      | (go_at_call 20; ((with_reducible refine (Hid.out HM _).mono ?_); rintro e w1 ⟨rfl, HB1⟩; have HB9 : Hid (BlkV w1 w.heap.size 28 [.int .u64 0, .int .u32 0, .int .u16 0] ∧ Below w.heap.size w w1) := Lib.hid ⟨(BlkV.new w 28 _).below HB1.out (by simp), (twoN w _).trans (HB1.out.mono (by simp))⟩))
      | ((refine wpList_st rfl 28 (.tmp 2) (.tmp 19) rfl w.heap.size 0 [.int .u64 ((toS s).i + 1), .int .u32 (((toS s).st + 3000) % 4294967296), .int .u16 (((toS s).pc + 1) % 32768)] rfl rfl 28 _ HB9.out.1 (Nat.le_of_eq rfl) rowSp (by simp [Value.oneCell']) ?_); intro w7 hB7 ho7; rw [splice_all _ _ (by rfl)] at hB7))
    exact ret_row (by rfl) (by rfl) hB7 rowSp (by rfl) ⟨by rw [HH.out], Lib.hid (HB9.out.2.trans (ho7.below (Nat.le_refl _)))⟩
end Go.Proofs.Ytjlfokfdieafeaa
