/- Contracts of package stun: Read, where bytes are no message by their head; and what is returned. No statement is proved here. -/
import Derived.Test.YthoiebjndchobaaStunP3
namespace Go.Proofs.Ythoiebjndchobaa
open Go.RowKit
set_option linter.unusedVariables false

theorem res_two {P : Program} {fn : Func} {tmps : Array Value} {w : World} {p u : Tmp} {ty ty2 e : TypeId} {g g2 : Nat} {cs : List Value} {v : Value} {k : IntKind} (h : fn.results = #[.cell p ty, .cell u ty2]) (hp : tmps.getD p undef = .pointer (some ⟨g, 0, none⟩)) (hu : tmps.getD u undef = .pointer (some ⟨g2, 0, none⟩))
    (hB : BlkV w g e cs) (hT : RowTy P ty cs.length) (hc : w.cell? ⟨g2, 0, none⟩ = some v) (h2 : P.underlying ty2 = some (.int k)) : (results fn tmps).run P w = .ok (.tuple #[.agg cs.toArray, v]) w := by
  obtain ⟨d, h1, h2', h3⟩ := hT
  have hp' : tmps[p]?.getD undef = .pointer (some ⟨g, 0, none⟩) := by simpa using hp
  have hu' : tmps[u]?.getD undef = .pointer (some ⟨g2, 0, none⟩) := by simpa using hu
  have hl : (loadVar ty2 ⟨g2, 0, none⟩).run P w = .ok v w := by
    simp [loadVar, isAgg, run_underlying, h2, load, go_sem]
    simp [Sem.run, hc]
  simp [results, h, hp', hu', asAddr, run_loadVar_row w g e ty cs.toArray (0, 0) d hB h1 (by cases d <;> simp_all) (by simpa using h3), hl]
theorem ret_two {P : Program} {fn : Func} {R : Ending → World → Prop} {a : Act} {w : World} {p u : Tmp} {ty ty2 e : TypeId} {g g2 : Nat} {cs : List Value} {v : Value} {k : IntKind} (h : fn.results = #[.cell p ty, .cell u ty2]) (hp : a.tmps.getD p undef = .pointer (some ⟨g, 0, none⟩)) (hu : a.tmps.getD u undef = .pointer (some ⟨g2, 0, none⟩))
    (hB : BlkV w g e cs) (hT : RowTy P ty cs.length) (hc : w.cell? ⟨g2, 0, none⟩ = some v) (h2 : P.underlying ty2 = some (.int k)) (hd : a.defers = []) (hR : R (.returned (.tuple #[.agg cs.toArray, v])) w) : bodyPost P fn R .ret a w :=
  bodyPost_ret (res_two h hp hu hB hT hc h2) hd hR
/-- The boxes of what is handed back: a message, and an error's number. -/
abbrev rbW (w : World) : World := (w.alloc (.cells zStn.toArray 28)).alloc (.cells #[.int .i64 0] 29)
def RB (w : World) (wz : World) : Prop := Below w.heap.size w wz ∧ BlkV wz w.heap.size 28 zStn ∧ BlkV wz (w.heap.size + 1) 29 [.int .i64 0]
theorem RB.start (w : World) : RB w (rbW w) := ⟨twoBelow w _ _, (BlkV.new w _ _).alloc _, BlkV.new_at _ _ _ _ _ (size_alloc w _).symm rfl⟩
theorem RB.on {w wz wy : World} (h : RB w wz) (hb : Below wz.heap.size wz wy) : RB w wy := ⟨h.1.trans (hb.mono h.1.size), h.2.1.below hb h.2.1.lt, h.2.2.below hb h.2.2.lt⟩
theorem RB.at1 {w wz : World} (h : RB w wz) : wz.cell? ⟨w.heap.size + 1, 0, none⟩ = some (.int .i64 0) := (h.2.2.cell 0).trans rfl
theorem RB.set {w wz : World} {cs : List Value} (hb : Below w.heap.size w wz) (hB : BlkV wz w.heap.size 28 cs) (h2 : BlkV wz (w.heap.size + 1) 29 [.int .i64 0]) (q : Int) :
    BlkV (wz.setCell ⟨w.heap.size + 1, 0, none⟩ (.int .i64 q)) w.heap.size 28 cs ∧ (wz.setCell ⟨w.heap.size + 1, 0, none⟩ (.int .i64 q)).cell? ⟨w.heap.size + 1, 0, none⟩ = some (.int .i64 q) ∧ Below w.heap.size w (wz.setCell ⟨w.heap.size + 1, 0, none⟩ (.int .i64 q)) :=
  ⟨hB.far (by simp) _, ((h2.set_ 0 (.int .i64 q)).cell 0).trans rfl, hb.setCell (by simp) _⟩
set_option maxRecDepth 100000 in
set_option maxHeartbeats 1000000 in
theorem read_short (A : Option Addr) (n c : Nat) (bs : List UInt8) (w : World) (hr : RdS w A n c bs) (h : n < 20) :
    Calls Try.prog 7 #[.slice A n c] w (R12 bs w) := by
  have hz := zeroStn
  have HL := Lib.hid hr.len
  have HS := Lib.hid (RB.start w)
  have HS0 : Hid (BlkV (rbW w) w.heap.size 28 zStn) := Lib.hid HS.out.2.1
  clear hr
  go_enter Try.func7, Try.ntmps7
  go_wp2_with ((with_reducible refine wpList_st rfl 28 (.tmp 2) (.tmp 10) rfl w.heap.size 0 zStn rfl rfl 28 zStn HS0.out fitS (rowStn zS_len) zS_one ?_); intro w3 hB3 ho3; rw [splice_all _ _ (by rfl)] at hB3; have B1 := Lib.hid (HS.out.2.2.only ho3 (by omega)); have hc3 : w3.cell? ⟨w.heap.size + 1, 0, none⟩ = some (.int .i64 0) := (B1.out.cell 0).trans rfl; have hf3 := B1.out.frozen 0; have HB3 := Lib.hid hB3; have H3 := Lib.hid (HS.out.1.trans (ho3.below (Nat.le_refl _))); clear hB3 ho3)
  obtain ⟨k1, k2, k3⟩ := RB.set H3.out HB3.out B1.out 2
  exact ret_two rfl rfl rfl k1 (rowStn zS_len) k2 Try.underlying29 rfl (R12.short (by rw [HL.out]; exact h) k3)
set_option maxRecDepth 100000 in
set_option maxHeartbeats 1000000 in
theorem read_form (A : Option Addr) (n c : Nat) (bs : List UInt8) (w : World) (hr : RdS w A n c bs) (h : 20 ≤ n) (hn : n ≤ 100000) (hno : ¬ isB bs ∨ numb ((bs.drop 2).take 2) ≠ n - 20) :
    Calls Try.prog 7 #[.slice A n c] w (R12 bs w) := by
  have hz := zeroStn
  have hl := hr.len
  have HS := Lib.hid (RB.start w)
  have HS0 : Hid (BlkV (rbW w) w.heap.size 28 zStn) := Lib.hid HS.out.2.1
  have hNM : ∀ s, ¬ isMsg bs s := by
    intro s hs
    rcases hno with h1 | h1
    · exact h1 hs.isB
    · refine h1 ?_
      have e1 := hs.len
      rw [hl] at e1
      have h2 := bodS_le s.av hs.2.2.2.2
      have h3 := hs.2.2.2.1
      rw [hs.1]
      unfold wrS
      rw [List.drop_append_of_le_length (by simp [length_beb]), List.drop_eq_nil_of_le (by simp [length_beb]), List.nil_append, List.take_append_of_le_length (by simp [length_beb]), List.take_of_length_le (by simp [length_beb]), numb_beb]
      omega
  have HNM := Lib.hid (fun W => R12.form (w := w) (w' := W) (by omega) hNM)
  have hrr := hr.below HS.out.1
  have h20 : ¬ (n : Int) < 20 := by omega
  obtain ⟨q, hq⟩ : ∃ q, q = numb ((bs.drop 2).take 2) := ⟨_, rfl⟩
  have HN : Hid (Calls Try.prog 17 #[.slice A n c, .int .i64 2, .int .i64 2] (rbW w) fun e w' => e = .returned (.int .u64 (q : Int)) ∧ rbW w = w') := Lib.hid (by rw [hq]; exact number_any A n c bs 2 2 2 2 rfl rfl _ hrr (by omega) (by omega) (by omega))
  obtain ⟨t, ht⟩ : ∃ t : Bool, t = true ↔ isB bs := by
    by_cases hB : isB bs
    · exact ⟨true, by simp [hB]⟩
    · exact ⟨false, by simp [hB]⟩
  have HI := Lib.hid (is_any A n c bs (rbW w) hrr t ht)
  rw [← hq] at hno
  have ew : IntKind.u64.wrap ((n : Int) - 20) = (n : Int) - 20 := by rw [IntKind.wrap_u64]; omega
  have hcase : t = false ∨ (t = true ∧ ((q : Int) != (n : Int) - 20) = true) := by
    cases t with
    | false => exact .inl rfl
    | true =>
      refine .inr ⟨rfl, ?_⟩
      rcases hno with h1 | h1
      · exact absurd (ht.1 rfl) h1
      · simp; omega
  clear hr hl hrr hNM hno hq ht
  rcases hcase with ht | ⟨ht, hne⟩
  · subst ht
    go_enter Try.func7, Try.ntmps7
    go_wp2_with (first
      | (go_at_call 10; ((with_reducible refine (Hid.out HI).mono ?_); rintro e w' ⟨rfl, rfl⟩))
      | ((with_reducible refine wpList_st rfl 28 (.tmp 2) (.tmp 23) rfl w.heap.size 0 zStn rfl rfl 28 zStn HS0.out fitS (rowStn zS_len) zS_one ?_); intro w3 hB3 ho3; rw [splice_all _ _ (by rfl)] at hB3; have B1 := Lib.hid (HS.out.2.2.only ho3 (by omega)); have hc3 : w3.cell? ⟨w.heap.size + 1, 0, none⟩ = some (.int .i64 0) := (B1.out.cell 0).trans rfl; have hf3 := B1.out.frozen 0; have HB3 := Lib.hid hB3; have H3 := Lib.hid (HS.out.1.trans (ho3.below (Nat.le_refl _))); clear hB3 ho3))
    obtain ⟨k1, k2, k3⟩ := RB.set H3.out HB3.out B1.out 3
    exact ret_two rfl rfl rfl k1 (rowStn zS_len) k2 Try.underlying29 rfl (HNM.out _ k3)
  · subst ht
    go_enter Try.func7, Try.ntmps7
    go_wp2_with (first
      | (go_at_call 10; ((with_reducible refine (Hid.out HI).mono ?_); rintro e w' ⟨rfl, rfl⟩))
      | (go_at_call 17; ((with_reducible refine (Hid.out HN).mono ?_); rintro e w' ⟨rfl, rfl⟩))
      | ((with_reducible refine wpList_st rfl 28 (.tmp 2) (.tmp 23) rfl w.heap.size 0 zStn rfl rfl 28 zStn HS0.out fitS (rowStn zS_len) zS_one ?_); intro w3 hB3 ho3; rw [splice_all _ _ (by rfl)] at hB3; have B1 := Lib.hid (HS.out.2.2.only ho3 (by omega)); have hc3 : w3.cell? ⟨w.heap.size + 1, 0, none⟩ = some (.int .i64 0) := (B1.out.cell 0).trans rfl; have hf3 := B1.out.frozen 0; have HB3 := Lib.hid hB3; have H3 := Lib.hid (HS.out.1.trans (ho3.below (Nat.le_refl _))); clear hB3 ho3))
    obtain ⟨k1, k2, k3⟩ := RB.set H3.out HB3.out B1.out 3
    exact ret_two rfl rfl rfl k1 (rowStn zS_len) k2 Try.underlying29 rfl (HNM.out _ k3)
end Go.Proofs.Ythoiebjndchobaa
