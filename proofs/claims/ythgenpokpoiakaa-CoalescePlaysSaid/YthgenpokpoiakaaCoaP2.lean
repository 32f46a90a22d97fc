/- Contracts of package coalesce: what is due is a closure of the tick; Due; what the laws ask, brought together. No statement is proved here. -/
import Derived.Test.YthgenpokpoiakaaCoaP1
namespace Go.Proofs.Ythgenpokpoiakaa
open Go.RowKit
set_option linter.unusedVariables false

/-- The closure has captured the gate (in block p) and the interval (in block r). -/
structure Cls24 (w : World) (g p r : Nat) (i : Int) (s : Gte) : Prop where
  at_ : PCoa w g i s
  cp : w.cell? ⟨p, 0, none⟩ = some (.pointer (some ⟨g, 0, none⟩))
  cr : w.cell? ⟨r, 0, none⟩ = some (.int .u64 s.I)
set_option maxHeartbeats 1000000 in
theorem told_any24 (g p r : Nat) (i : Int) (s : Gte) (t : Int) (w : World) (h : Cls24 w g p r i s) (hI : 1 ≤ s.I ∧ s.I ≤ 9223372036854775807) (hl : -4611686018427387903 ≤ lstG s ∧ lstG s ≤ 4611686018427387903) (ht : -4611686018427387903 ≤ t ∧ t ≤ 4611686018427387903) (x : Bool) (hx : (s.a && (decide ((s.O.length : Int) = 0) || (decide (lstG s ≤ t) && decide (s.I ≤ t - lstG s)))) = x) :
    Calls Try.prog 16 #[.int .i64 t, .pointer (some ⟨p, 0, none⟩), .pointer (some ⟨r, 0, none⟩)] w fun e w' => e = .returned (.bool x) ∧ ∃ n, w' = w.drewN n := by
  have c1 := h.at_.c1
  have c2 := h.at_.c2
  have c3 := h.at_.c3
  have cp := h.cp
  have cr := h.cr
  clear h
  obtain ⟨I, a, O⟩ := s
  simp only at c1 c2 c3 cr hI hx hl
  generalize lstG ⟨I, a, O⟩ = l at c2 hl hx
  generalize (O.length : Int) = n at c3 hx
  obtain ⟨z, hz⟩ : ∃ z, z = t - l := ⟨_, rfl⟩
  rw [← hz] at hx
  by_cases h1 : l ≤ t
  · have e1 : IntKind.u64.wrap (IntKind.u64.wrap t - IntKind.u64.wrap l) = z := by simp only [IntKind.wrap_u64]; omega
    rw [decide_eq_true h1, Bool.true_and] at hx
    obtain ⟨u, hu⟩ : ∃ u, IntKind.u64.wrap t = u := ⟨_, rfl⟩
    obtain ⟨v, hv⟩ : ∃ v, IntKind.u64.wrap l = v := ⟨_, rfl⟩
    rw [hu, hv] at e1
    obtain ⟨b, hb⟩ : ∃ b, decide (I ≤ z) = b := ⟨_, rfl⟩
    rw [hb] at hx
    have g1 : decide (l ≤ t) = true := decide_eq_true h1
    clear hz hI hl ht
    cases a with
    | false =>
      simp only [Bool.false_and] at hx
      subst hx
      go_enter Try.func16, Try.ntmps16
      go_wp2
      go_quiet (fail)
      go_wp2
      go_ret
      exact ⟨rfl, _, rfl⟩
    | true =>
      simp only [Bool.true_and] at hx
      by_cases hn : n = 0
      · rw [decide_eq_true hn, Bool.true_or] at hx
        subst hx
        subst hn
        go_enter Try.func16, Try.ntmps16
        go_wp2
        go_quiet (fail)
        go_wp2
        go_ret
        exact ⟨rfl, _, rfl⟩
      · rw [decide_eq_false hn, Bool.false_or] at hx
        have hn2 : (n == 0) = false := by simpa using hn
        subst hx
        go_enter Try.func16, Try.ntmps16
        go_wp2
        go_quiet (fail)
        go_wp2
        go_ret
        exact ⟨rfl, _, rfl⟩
  · rw [decide_eq_false h1, Bool.false_and, Bool.or_false] at hx
    have g1 : decide (l ≤ t) = false := decide_eq_false h1
    clear hz hI hl ht
    cases a with
    | false =>
      simp only [Bool.false_and] at hx
      subst hx
      go_enter Try.func16, Try.ntmps16
      go_wp2
      go_quiet (fail)
      go_wp2
      go_ret
      exact ⟨rfl, _, rfl⟩
    | true =>
      simp only [Bool.true_and] at hx
      by_cases hn : n = 0
      · rw [decide_eq_true hn] at hx
        subst hx
        subst hn
        go_enter Try.func16, Try.ntmps16
        go_wp2
        go_quiet (fail)
        go_wp2
        go_ret
        exact ⟨rfl, _, rfl⟩
      · rw [decide_eq_false hn] at hx
        have hn2 : (n == 0) = false := by simpa using hn
        subst hx
        go_enter Try.func16, Try.ntmps16
        go_wp2
        go_quiet (fail)
        go_wp2
        go_ret
        exact ⟨rfl, _, rfl⟩

theorem cls_new24 {w : World} {g : Nat} {i : Int} {s : Gte} (h : PCoa w g i s) :
    Cls24 ((w.alloc (.cells #[.pointer (some ⟨g, 0, none⟩)] 24)).alloc (.cells #[.int .u64 s.I] 41)) g w.heap.size (w.heap.size + 1) i s ∧ Below w.heap.size w ((w.alloc (.cells #[.pointer (some ⟨g, 0, none⟩)] 24)).alloc (.cells #[.int .u64 s.I] 41)) := by
  have hb : Below w.heap.size w ((w.alloc (.cells #[.pointer (some ⟨g, 0, none⟩)] 24)).alloc (.cells #[.int .u64 s.I] 41)) := ((Below.refl _ _).alloc (Nat.le_refl _) _).alloc (by simp) _
  have h1 : BlkV (w.alloc (.cells #[.pointer (some ⟨g, 0, none⟩)] 24)) w.heap.size 24 [.pointer (some ⟨g, 0, none⟩)] := BlkV.new w _ _
  exact ⟨⟨h.below hb, (BlkV.cell (h1.alloc _) 0).trans rfl, (BlkV.cell (BlkV.new_at _ (w.heap.size + 1) _ [.int .u64 s.I] _ (by simp) rfl) 0).trans rfl⟩, hb⟩
theorem clos_any24 (g : Nat) (i : Int) (s : Gte) (w : World) (h : PCoa w g i s) (hi : s.I ≤ 9223372036854775807) :
    Calls Try.prog 15 #[.pointer (some ⟨g, 0, none⟩)] w fun e w' => ∃ p r, e = .returned (.func (.func 16) #[] #[.pointer (some ⟨p, 0, none⟩), .pointer (some ⟨r, 0, none⟩)]) ∧ Hid (Cls24 w' g p r i s ∧ Below w.heap.size w w') := by
  have hmf : ∀ (fn : Fn) (first cap : Array Value) (w : World), (Instr.makeFunc fn first cap).run Try.prog w = .ok (.func fn first cap) w := fun _ _ _ _ => rfl
  have HC := Lib.hid (cls_new24 h)
  have hI := h.i
  have hlt := h.lt
  have c0 := (h.below ((Below.refl w.heap.size w).alloc (Nat.le_refl _) (.cells #[.pointer (some ⟨g, 0, none⟩)] 24))).c0
  clear h
  by_cases h1 : i < 1
  · rw [if_pos h1] at hI
    rw [hI] at HC
    go_enter Try.func15, Try.ntmps15
    go_wp2
    go_ret
    exact ⟨_, _, rfl, HC⟩
  · rw [if_neg h1] at hI
    rw [hI] at HC hi
    go_enter Try.func15, Try.ntmps15
    go_wp2
    go_ret
    exact ⟨_, _, rfl, HC⟩

theorem due_any24 (g : Nat) (i : Int) (s : Gte) (F : Nat → Prop) (t : Int) (w : World) (h : PCoa w g i s) (hF : ∀ k, F k ↔ k = g) (ok : OkG s) (hn : s.O.length ≤ 1000) (ht : -4611686018427387903 ≤ t ∧ t ≤ 4611686018427387903) :
    Calls Try.prog 10 #[.pointer (some ⟨g, 0, none⟩), .int .i64 t] w fun e w' => e = .returned (.bool (dueB s t)) ∧ Hid (StpK T24 (.pointer (some ⟨g, 0, none⟩)) (dueG s t) F w w') := by
  have hI := ok.I
  have hl : -4611686018427387903 ≤ lstG s ∧ lstG s ≤ 4611686018427387903 := by
    by_cases hz : s.O.length = 0
    · unfold lstG
      rw [List.eq_nil_of_length_eq_zero hz]
      decide
    · exact ok.O _ (List.mem_of_getLast? (lst_last s hz))
  have HD := Lib.hid (clos_any24 g i s w h hI.2)
  have HT := Lib.hid (fun wx p r (hx : Cls24 wx g p r i s) => told_any24 g p r i s t wx hx hI hl ht _ (((due_is s t).resolve_right (by omega)).symm))
  have HW := Lib.hid (due_ways s t)
  have HF := Lib.hid hF
  have hl3 : (s.O.length : Int) ≤ 1000 := by omega
  have hl0 : 0 ≤ (s.O.length : Int) := by omega
  clear h hF ok hn ht hI hl
  go_enter Try.func10, Try.ntmps10
  rcases HW.out with ⟨e1, e2, _⟩ | ⟨e1, e2, e3, _⟩
  · rw [e1] at HT
    rw [e1, e2]
    clear HW e1 e2
    go_wp2_with (first
      | (go_at_call 15; ((with_reducible refine (Hid.out HD).mono ?_); rintro e w1 ⟨p, r, rfl, HK⟩; have P1 := Lib.hid (HT.out w1 p r HK.out.1)))
      | (go_at_call 16; ((with_reducible refine (Hid.out P1).mono ?_); rintro e w2 ⟨rfl, m2, rfl⟩; clear P1)))
    go_ret
    exact ⟨rfl, Lib.hid (t24_stp HF.out (HK.out.2.trans ((drewN_bel _ _).mono HK.out.2.size)) (Only.refl _ _) (HK.out.1.at_.below (drewN_bel _ _)))⟩
  · rw [e1] at HT
    rw [e1, e2]
    clear HW e1 e2
    go_wp2_with (first
      | (go_at_call 15; ((with_reducible refine (Hid.out HD).mono ?_); rintro e w1 ⟨p, r, rfl, HK⟩; have P1 := Lib.hid (HT.out w1 p r HK.out.1)))
      | (go_at_call 16; ((with_reducible refine (Hid.out P1).mono ?_); rintro e w2 ⟨rfl, m2, rfl⟩; have H1 := HK.out.1.at_.below (drewN_bel w1 m2); have f1 := H1.fr 1; have f2 := H1.fr 2; have f3 := H1.fr 3; have c1 := H1.c1; have c2 := H1.c2; have c3 := H1.c3; have HB := Lib.hid (HK.out.2.trans ((drewN_bel w1 m2).mono HK.out.2.size)); have H2 := Lib.hid H1; clear P1 H1 HK HT HD; generalize w1.drewN m2 = w3 at *)))
    go_ret
    refine ⟨rfl, Lib.hid (t24_stp HF.out HB.out (((Only.set _ _ _ _).trans (Only.set _ _ _ _)).trans (Only.set _ _ _ _)) ⟨?_, H2.out.i⟩)⟩
    have hx := BlkV.set_ (BlkV.set_ (BlkV.set_ H2.out.blk 1 (.bool false)) 2 (.int .i64 t)) 3 (.int .i64 (s.O.length + 1))
    have hc : coc i ⟨s.I, false, s.O ++ [t]⟩ = [.int .i64 i, .bool false, .int .i64 t, .int .i64 (s.O.length + 1)] := by
      unfold coc lstG
      simp
    rw [hc]
    exact hx

theorem tells24 : Tells24 T24 where
  lone := lone24
  new := fun i w hi => new_any24 i w hi
  ask := fun w q s F ⟨g, i, e, h, hF⟩ ok => by injection e with e; injection e with e; subst e; exact ask_any24 g i s F w h hF
  came := fun w q s F ⟨g, i, e, h, hF⟩ ok => by injection e with e; injection e with e; subst e; exact came_any24 g i s F w h hF
  due := fun w q s F t ⟨g, i, e, h, hF⟩ ok hn ht => by injection e with e; injection e with e; subst e; exact due_any24 g i s F t w h hF ok hn ht
  asked := fun w q s F ⟨g, i, e, h, hF⟩ ok => by injection e with e; injection e with e; subst e; exact asked_any24 g i s w h
  sent := fun w q s F ⟨g, i, e, h, hF⟩ ok hn => by injection e with e; injection e with e; subst e; exact sent_any24 g i s w h
  askNil := ask_nil24
  cameNil := came_nil24
  dueNil := fun w t => due_nil24 w t
  askedNil := asked_nil24
  sentNil := sent_nil24
end Go.Proofs.Ythgenpokpoiakaa
