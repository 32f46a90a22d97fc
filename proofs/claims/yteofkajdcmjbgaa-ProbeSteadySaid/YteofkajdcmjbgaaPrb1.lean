/- Contracts of package probe: begun, a beginning, an index, a standing. No statement is proved here. -/
import Derived.Test.YteofkajdcmjbgaaProg
import Derived.Test.YteofkajdcmjbgaaPrbNum
import Derived.WalkKit
import Derived.KernelRfl
import Derived.IntWalk
import Derived.LoopTactic
import Derived.Lib.Hide
import Derived.OpenShut
import Derived.Deep.RegionHeld3
import Derived.BigQuiet
namespace Go.Proofs.Yteofkajdcmjbgaa
open Go.RowKit
set_option linter.unusedVariables false

/-- Block g is this source. -/
def SrcAt (w : World) (g : Nat) (s : Src) : Prop := BlkV w g 28 s.cells
section
variable {w w' : World} {g : Nat} {s : Src}
theorem SrcAt.lt (k : SrcAt w g s) : g < w.heap.size := BlkV.lt k
theorem SrcAt.below (k : SrcAt w g s) (hb : Below w.heap.size w w') : SrcAt w' g s := BlkV.below k hb k.lt
theorem SrcAt.drew (k : SrcAt w g s) : SrcAt w.drew g s := k
theorem SrcAt.only (k : SrcAt w g s) {p : Nat} (hb : Only p w w') (hg : g ≠ p) : SrcAt w' g s := BlkV.only k hb hg
theorem SrcAt.c0 (k : SrcAt w g s) : w.cell? ⟨g, 0, none⟩ = some (.bool s.had) := (BlkV.cell k 0).trans rfl
theorem SrcAt.c1 (k : SrcAt w g s) : w.cell? ⟨g, 1, none⟩ = some (.int .i64 s.p) := (BlkV.cell k 1).trans rfl
theorem SrcAt.c2 (k : SrcAt w g s) : w.cell? ⟨g, 2, none⟩ = some (.int .u16 s.h) := (BlkV.cell k 2).trans rfl
theorem SrcAt.c3 (k : SrcAt w g s) : w.cell? ⟨g, 3, none⟩ = some (.int .i64 s.t) := (BlkV.cell k 3).trans rfl
theorem SrcAt.c4 (k : SrcAt w g s) : w.cell? ⟨g, 4, none⟩ = some (.int .i64 s.f) := (BlkV.cell k 4).trans rfl
theorem SrcAt.c5 (k : SrcAt w g s) : w.cell? ⟨g, 5, none⟩ = some (.int .i64 s.c) := (BlkV.cell k 5).trans rfl
theorem SrcAt.c6 (k : SrcAt w g s) : w.cell? ⟨g, 6, none⟩ = some (.int .i64 s.b) := (BlkV.cell k 6).trans rfl
theorem SrcAt.fr (k : SrcAt w g s) (j : Nat) : w.frozen? ⟨g, j, none⟩ = false := BlkV.frozen k j
theorem SrcAt.of_blk (k : BlkV w g 28 s.cells) : SrcAt w g s := k
end

theorem began_noneP (w : World) :
    Calls Try.prog 12 #[.pointer none] w fun e w' => e = .returned (.bool false) ∧ w = w' := by
  go_enter Try.func12, Try.ntmps12
  go_wp2
  go_ret
  exact ⟨rfl, rfl⟩
theorem began_anyP (g : Nat) (s : Src) (w : World) (hs : SrcAt w g s) :
    Calls Try.prog 12 #[.pointer (some ⟨g, 0, none⟩)] w fun e w' => e = .returned (.bool s.on) ∧ w = w' := by
  have c0 := hs.c0
  have c1 := hs.c1
  clear hs
  obtain ⟨had, p, h, t, f, c, b⟩ := s
  simp only [Src.on] at c0 c1 ⊢
  by_cases hp : p = 0
  · subst hp
    cases had
    · go_enter Try.func12, Try.ntmps12
      go_wp2
      go_ret
      exact ⟨rfl, rfl⟩
    · go_enter Try.func12, Try.ntmps12
      go_wp2
      go_ret
      exact ⟨rfl, rfl⟩
  · rw [decide_eq_false hp, Bool.and_false]
    have hpb : (p == 0) = false := by simpa using hp
    cases had
    · go_enter Try.func12, Try.ntmps12
      go_wp2
      go_ret
      exact ⟨rfl, rfl⟩
    · go_enter Try.func12, Try.ntmps12
      go_wp2
      go_ret
      exact ⟨rfl, rfl⟩

theorem index_noneP (x : Int) (w : World) :
    Calls Try.prog 9 #[.pointer none, .int .u16 x] w fun e w' => e = .returned (.int .i64 0) ∧ w = w' := by
  have HB := Lib.hid (began_noneP w)
  go_enter Try.func9, Try.ntmps9
  go_wp2_with (go_at_call 12; ((with_reducible refine (Hid.out HB).mono ?_); rintro e w1 ⟨rfl, rfl⟩))
  go_ret
  exact ⟨rfl, rfl⟩
theorem index_off (g : Nat) (s : Src) (x : Int) (w : World) (hs : SrcAt w g s) (ho : s.on = false) :
    Calls Try.prog 9 #[.pointer (some ⟨g, 0, none⟩), .int .u16 x] w fun e w' => e = .returned (.int .i64 0) ∧ w = w' := by
  have HB := Lib.hid (began_anyP g s w hs)
  rw [ho] at HB
  clear hs ho
  go_enter Try.func9, Try.ntmps9
  go_wp2_with (go_at_call 12; ((with_reducible refine (Hid.out HB).mono ?_); rintro e w1 ⟨rfl, rfl⟩))
  go_ret
  exact ⟨rfl, rfl⟩
theorem index_on (g : Nat) (s : Src) (x : Int) (w : World) (hs : SrcAt w g s) (ho : s.on = true) (ok : s.ok 1000000000) (x0 : 0 ≤ x) (x1 : x ≤ 65535) :
    Calls Try.prog 9 #[.pointer (some ⟨g, 0, none⟩), .int .u16 x] w fun e w' => e = .returned (.int .i64 (idxS s x)) ∧ w = w' := by
  have HB := Lib.hid (began_anyP g s w hs)
  rw [ho] at HB
  have c2 := hs.c2
  have c3 := hs.c3
  have h0 := ok.h0; have h1 := ok.h1; have t0 := ok.t0; have t1 := ok.t1
  clear hs ho ok
  obtain ⟨had, p, h, t, f, c, b⟩ := s
  simp only [idxS] at c2 c3 h0 h1 t0 t1 ⊢
  by_cases hx : h < x
  · rw [if_pos hx]
    go_enter Try.func9, Try.ntmps9
    go_wp2_with (go_at_call 12; ((with_reducible refine (Hid.out HB).mono ?_); rintro e w1 ⟨rfl, rfl⟩))
    go_ret
    exact ⟨rfl, rfl⟩
  · rw [if_neg hx]
    have hx' : x ≤ h := by omega
    go_enter Try.func9, Try.ntmps9
    go_wp2_with (go_at_call 12; ((with_reducible refine (Hid.out HB).mono ?_); rintro e w1 ⟨rfl, rfl⟩))
    go_ret
    exact ⟨rfl, rfl⟩
/-- An index, begun or not. -/
def ixS (s : Src) (x : Int) : Int := if s.on = true then idxS s x else 0
theorem index_anyP (g : Nat) (s : Src) (x : Int) (w : World) (hs : SrcAt w g s) (ok : s.ok 1000000000) (x0 : 0 ≤ x) (x1 : x ≤ 65535) :
    Calls Try.prog 9 #[.pointer (some ⟨g, 0, none⟩), .int .u16 x] w fun e w' => e = .returned (.int .i64 (ixS s x)) ∧ w = w' := by
  unfold ixS
  by_cases ho : s.on = true
  · rw [if_pos ho]; exact index_on g s x w hs ho ok x0 x1
  · rw [if_neg ho]; exact index_off g s x w hs (by simpa using ho)

theorem begin_anyP (g : Nat) (s : Src) (x : Int) (w : World) (hs : SrcAt w g s) (x0 : 0 ≤ x) (x1 : x ≤ 65535) :
    Calls Try.prog 13 #[.pointer (some ⟨g, 0, none⟩), .int .u16 x] w fun e w' => e = .returned (.tuple #[]) ∧ SrcAt w' g (begS s x) ∧ Only g w w' := by
  have f1 := hs.fr 1
  have f2 := hs.fr 2
  have f3 := hs.fr 3
  have f4 := hs.fr 4
  have f5 := hs.fr 5
  have f6 := hs.fr 6
  have c1 := hs.c1
  have c2 := hs.c2
  have c3 := hs.c3
  have c4 := hs.c4
  have c5 := hs.c5
  have c6 := hs.c6
  have HF : Hid (SrcAt ((((((w.setCell ⟨g, 1, none⟩ (.int .i64 0)).setCell ⟨g, 2, none⟩ (.int .u16 x)).setCell ⟨g, 3, none⟩ (.int .i64 0)).setCell ⟨g, 4, none⟩ (.int .i64 x)).setCell ⟨g, 5, none⟩ (.int .i64 1)).setCell ⟨g, 6, none⟩ (.int .i64 (-1))) g (begS s x) ∧ Only g w ((((((w.setCell ⟨g, 1, none⟩ (.int .i64 0)).setCell ⟨g, 2, none⟩ (.int .u16 x)).setCell ⟨g, 3, none⟩ (.int .i64 0)).setCell ⟨g, 4, none⟩ (.int .i64 x)).setCell ⟨g, 5, none⟩ (.int .i64 1)).setCell ⟨g, 6, none⟩ (.int .i64 (-1)))) := Lib.hid
    ⟨(BlkV.set_ (BlkV.set_ (BlkV.set_ (BlkV.set_ (BlkV.set_ (BlkV.set_ hs 1 _) 2 _) 3 _) 4 _) 5 _) 6 _),
     ((((((Only.refl g w).trans (Only.set _ _ _ _)).trans (Only.set _ _ _ _)).trans (Only.set _ _ _ _)).trans (Only.set _ _ _ _)).trans (Only.set _ _ _ _)).trans (Only.set _ _ _ _)⟩
  clear hs
  go_enter Try.func13, Try.ntmps13
  go_wp2
  go_end0
  exact ⟨rfl, HF.out.1, HF.out.2⟩

theorem zeroStanding (w : World) : (zeroValue 31).run Try.prog w = .ok (.agg #[.int .i64 0, .int .i64 0, .int .i64 0, .bool false]) w := by kernel_rfl
theorem rowStanding_ : RowTy Try.prog 31 4 := ⟨_, Try.underlying31, rfl, by kernel_rfl⟩
theorem rowStanding {n : Nat} (h : n = 4) : RowTy Try.prog 31 n := h ▸ rowStanding_
/-- How it stands. -/
def stnS (s : Src) : List Value := if s.on = true then [.int .i64 (s.t * 65536 + s.h - s.f + 1), .int .i64 s.c, .int .i64 (s.t * 65536 + s.h), .bool true] else [.int .i64 0, .int .i64 0, .int .i64 0, .bool false]
theorem standing_noneP (w : World) :
    Calls Try.prog 8 #[.pointer none] w fun e w' => e = .returned (.agg #[.int .i64 0, .int .i64 0, .int .i64 0, .bool false]) ∧ Below w.heap.size w w' := by
  have HB := Lib.hid (fun wx => began_noneP wx)
  have hz := zeroStanding
  have b0 : Below w.heap.size w (w.alloc (.cells #[.int .i64 0, .int .i64 0, .int .i64 0, .bool false] 31)) := (Below.refl _ _).alloc (Nat.le_refl _) _
  have hB := BlkV.new w 31 [.int .i64 0, .int .i64 0, .int .i64 0, .bool false]
  go_enter Try.func8, Try.ntmps8
  go_wp2_with (go_at_call 12; ((with_reducible refine (Hid.out HB _).mono ?_); rintro e w1 ⟨rfl, rfl⟩))
  exact ret_row (by rfl) (by rfl) hB (rowStanding rfl) (by rfl) ⟨rfl, b0⟩
theorem standing_off (g : Nat) (s : Src) (w : World) (hs : SrcAt w g s) (ho : s.on = false) :
    Calls Try.prog 8 #[.pointer (some ⟨g, 0, none⟩)] w fun e w' => e = .returned (.agg #[.int .i64 0, .int .i64 0, .int .i64 0, .bool false]) ∧ Below w.heap.size w w' := by
  have hz := zeroStanding
  have b0 : Below w.heap.size w (w.alloc (.cells #[.int .i64 0, .int .i64 0, .int .i64 0, .bool false] 31)) := (Below.refl _ _).alloc (Nat.le_refl _) _
  have hB := BlkV.new w 31 [.int .i64 0, .int .i64 0, .int .i64 0, .bool false]
  have HB := Lib.hid (began_anyP g s _ (hs.below b0))
  rw [ho] at HB
  clear hs ho
  go_enter Try.func8, Try.ntmps8
  go_wp2_with (go_at_call 12; ((with_reducible refine (Hid.out HB).mono ?_); rintro e w1 ⟨rfl, rfl⟩))
  exact ret_row (by rfl) (by rfl) hB (rowStanding rfl) (by rfl) ⟨rfl, b0⟩
theorem standing_on (g : Nat) (s : Src) (w : World) (hs : SrcAt w g s) (ho : s.on = true) (ok : s.ok 1000000000) :
    Calls Try.prog 8 #[.pointer (some ⟨g, 0, none⟩)] w fun e w' => e = .returned (.agg #[.int .i64 (s.t * 65536 + s.h - s.f + 1), .int .i64 s.c, .int .i64 (s.t * 65536 + s.h), .bool true]) ∧ Below w.heap.size w w' := by
  have hz := zeroStanding
  have b0 : Below w.heap.size w (w.alloc (.cells #[.int .i64 0, .int .i64 0, .int .i64 0, .bool false] 31)) := (Below.refl _ _).alloc (Nat.le_refl _) _
  have hs1 := hs.below b0
  have HB := Lib.hid (began_anyP g s _ hs1)
  rw [ho] at HB
  have e : idxS s s.h = s.t * 65536 + s.h := by simp [idxS]
  have HI := Lib.hid (index_on g s s.h _ hs1 ho ok ok.h0 ok.h1)
  rw [e] at HI
  have c2 := hs1.c2
  have c4 := hs1.c4
  have c5 := hs1.c5
  have h0 := ok.h0; have h1 := ok.h1; have t0 := ok.t0; have t1 := ok.t1
  have g0 := ok.f0; have g1 := ok.f1
  clear hs hs1 ho ok e
  obtain ⟨had, p, h, t, f, c, b⟩ := s
  simp only at HI c2 c4 c5 h0 h1 t0 t1 g0 g1 ⊢
  obtain ⟨H, hH⟩ : ∃ H, H = t * 65536 + h := ⟨_, rfl⟩
  have hb0 : 0 ≤ H ∧ H ≤ 65536000065535 := by omega
  rw [← hH] at HI ⊢
  have hB2 := BlkV.new w 31 [.int .i64 (H - f + 1), .int .i64 c, .int .i64 H, .bool true]
  have b2 : Below w.heap.size w (w.alloc (.cells #[.int .i64 (H - f + 1), .int .i64 c, .int .i64 H, .bool true] 31)) := (Below.refl _ _).alloc (Nat.le_refl _) _
  clear hH t0 t1 h0 h1
  go_enter Try.func8, Try.ntmps8
  go_wp2_with (first
    | (go_at_call 12; ((with_reducible refine (Hid.out HB).mono ?_); rintro e w1 ⟨rfl, rfl⟩))
    | (go_at_call 9; ((with_reducible refine (Hid.out HI).mono ?_); rintro e w1 ⟨rfl, rfl⟩)))
  go_region
  all_goals (try go_wp2)
  all_goals exact ret_row (by rfl) (by rfl) hB2.drew (rowStanding rfl) (by rfl) ⟨rfl, b2.drew⟩
theorem standing_anyP (g : Nat) (s : Src) (w : World) (hs : SrcAt w g s) (ok : s.ok 1000000000) :
    Calls Try.prog 8 #[.pointer (some ⟨g, 0, none⟩)] w fun e w' => e = .returned (.agg (stnS s).toArray) ∧ Below w.heap.size w w' := by
  unfold stnS
  by_cases ho : s.on = true
  · rw [if_pos ho]; exact standing_on g s w hs ho ok
  · rw [if_neg ho]; exact standing_off g s w hs (by simpa using ho)
end Go.Proofs.Yteofkajdcmjbgaa
