/- What the document's answers for layer 24 (tenailleref24) answer. No statement is proved here. -/
import Derived.Test.YthgenpokpoiakaaProg
import Derived.Test.YthgenpokpoiakaaCoaNum
import Derived.Test.YthgenpokpoiakaaInts
import Derived.Test.YthgenpokpoiakaaElts
import Derived.Test.YthgenpokpoiakaaFoot
import Derived.Test.YthgenpokpoiakaaTwoK
import Derived.WalkKit
import Derived.KernelRfl
import Derived.IntWalk
import Derived.LoopTactic
import Derived.Lib.Hide
import Derived.OpenShut
import Derived.BigQuiet
import Derived.Deep.DeepCutAuto
namespace Go.Proofs.Ythgenpokpoiakaa
open Go.RowKit
set_option linter.unusedVariables false

theorem e64G : ElT 2 30 1 := elT (by8 := 8) (z := .int .i64 0) Try.underlying30 (by kernel_rfl) (by omega) rfl (by omega)
theorem neG : (2 : TypeId) ≠ 32 := by decide
/-- The document's gate at a pointer. -/
def R24 (w : World) (v : Value) (s : Gte) (F : Nat → Prop) : Prop := ∃ g vO, v = .pointer (some ⟨g, 0, none⟩) ∧ BlkV w g 32 [.int .i64 s.I, .bool s.a, vO] ∧ w.ownsRow 0 2 1 vO s.O.length (icells s.O) ∧ ∀ k, F k ↔ k = g ∨ vO.ownBlock = some k
theorem r24_lone : Lone R24 where
  low := fun w p s F ⟨g, vO, _, h, ho, hF⟩ k hk => ((hF k).1 hk).elim (fun e => by rw [e]; exact h.lt) (fun e => (ho.lt k e).2)
  stay := fun w w2 p s F ⟨g, vO, hp, h, ho, hF⟩ hz hk => ⟨g, vO, hp, (hk g ((hF g).2 (.inl rfl))).trans h, own_at_same ho (fun k h1 => hk k ((hF k).2 (.inr h1))), hF⟩
theorem zeroGR : ∀ wx : World, (zeroValue 32).run Try.prog wx = .ok (.agg #[.int .i64 0, .bool false, .slice none 0 0]) wx := fun wx => by kernel_rfl
theorem rnew_any24 (i : Int) (w : World) (hi : i ≤ 9223372036854775807) :
    Calls Try.prog 8 #[.int .i64 i] w fun e w' => ∃ g F, e = .returned (.pointer (some ⟨g, 0, none⟩)) ∧ Hid (R24 w' (.pointer (some ⟨g, 0, none⟩)) (newG i) F ∧ (∀ k, F k → w.heap.size ≤ k) ∧ Below w.heap.size w w') := by
  have hz := zeroGR
  have HF : Hid (∀ q : Int, (newG i).I = q → R24 (w.alloc (.cells #[.int .i64 q, .bool false, .slice none 0 0] 32)) (.pointer (some ⟨w.heap.size, 0, none⟩)) (newG i) (fun k => k = w.heap.size) ∧ (∀ k, k = w.heap.size → w.heap.size ≤ k) ∧ Below w.heap.size w (w.alloc (.cells #[.int .i64 q, .bool false, .slice none 0 0] 32))) := Lib.hid (fun q hq => by
    subst hq
    exact ⟨⟨_, _, rfl, BlkV.new w _ _, by simpa [icells, newG] using World.ownsRow_nil _ _ _ _, fun k => by simp [Value.ownBlock]⟩, fun k hk => by rw [hk]; exact Nat.le_refl _, (Below.refl _ _).alloc (Nat.le_refl _) _⟩)
  have HI : Hid ((newG i).I = if i < 1 then 1 else i) := Lib.hid rfl
  by_cases h : i < 1
  · rw [if_pos h] at HI
    go_enter Try.func8, Try.ntmps8
    go_wp2
    go_ret
    exact ⟨w.heap.size, _, rfl, Lib.hid (HF.out 1 HI.out)⟩
  · rw [if_neg h] at HI
    go_enter Try.func8, Try.ntmps8
    go_wp2
    go_ret
    exact ⟨w.heap.size, rfl, _, Lib.hid (HF.out i HI.out)⟩
/-- A tick is put behind the ticks. -/
theorem grown24 {w w2 : World} {g : Nat} {I t : Int} {a : Bool} {O : List Int} {vO v1 : Value} {F : Nat → Prop} {e0 : List Value} (hB : BlkV w g 32 [.int .i64 I, .bool a, vO]) (ho : w.ownsRow 0 2 1 vO O.length (icells O)) (hF : ∀ k, F k ↔ k = g ∨ vO.ownBlock = some k)
    (ho1 : w2.ownsRow 0 2 1 v1 (O.length + 1) (icells O ++ [.int .i64 t])) (hg : ((w.setCell ⟨g, 1, none⟩ (.bool false)).alloc (.cells #[.int .i64 t] 2)).grownBy w2 vO.ownBlock) (hn : v1.ownBlock = vO.ownBlock ∨ v1.ownBlock = some ((w.setCell ⟨g, 1, none⟩ (.bool false)).alloc (.cells #[.int .i64 t] 2)).heap.size) :
    BlkV w2 g 32 [.int .i64 I, .bool false, vO] ∧ StpK R24 (.pointer (some ⟨g, 0, none⟩)) ⟨I, false, O ++ [t]⟩ F w (w2.setCell ⟨g, 2, none⟩ v1) := by
  have hne := own_ne ho hB neG
  have f0 : Fr F w (w.setCell ⟨g, 1, none⟩ (.bool false)) := Fr.of_only (F := F) (Only.set w g 1 _) ((hF g).2 (.inl rfl))
  have f1 : Fr F (w.setCell ⟨g, 1, none⟩ (.bool false)) ((w.setCell ⟨g, 1, none⟩ (.bool false)).alloc (.cells #[.int .i64 t] 2)) := .of_below ((Below.refl _ _).alloc (Nat.le_refl _) _)
  have f2 : Fr (fun k => vO.ownBlock = some k) ((w.setCell ⟨g, 1, none⟩ (.bool false)).alloc (.cells #[.int .i64 t] 2)) w2 := .of_grown hg (fun p hp => hp)
  have hB2 : BlkV w2 g 32 [.int .i64 I, .bool false, vO] := ((hB.set_ 1 (.bool false)).alloc _).fr f2 (fun e => hne e)
  have f3 : Fr (fun k => k = g) w2 (w2.setCell ⟨g, 2, none⟩ v1) := .of_only (Only.set _ _ _ _) rfl
  have fr := ((f0.trans f1 (fun i hi => .inl hi)).trans f2 (fun b hb => .inl ((hF b).2 (.inr hb)))).trans f3 (fun b hb => .inl ((hF b).2 (.inl hb)))
  have hsz := (f0.trans f1 (fun i hi => .inl hi)).size
  refine ⟨hB2, fun k => k = g ∨ v1.ownBlock = some k, ⟨g, v1, rfl, hB2.set_ 2 v1, ?_, fun k => Iff.rfl⟩, fr, fun k hk => ?_⟩
  · rw [List.length_append, icells_snoc]
    exact own_fr ho1 f3 (fun k hk e => own_ne ho1 hB2 neG (by rw [← e]; exact hk))
  · rcases hk with hk | hk
    · exact .inl ((hF k).2 (.inl hk))
    · rcases hn with e | e
      · exact .inl ((hF k).2 (.inr (by rw [← e]; exact hk)))
      · rw [e] at hk
        injection hk with hk
        right; rw [← hk]; exact hsz
theorem rdue_any24 (g : Nat) (s : Gte) (F : Nat → Prop) (t : Int) (w : World) (h : R24 w (.pointer (some ⟨g, 0, none⟩)) s F) (hk : OkG s) (hl : s.O.length ≤ 1000) (ht : -4611686018427387903 ≤ t ∧ t ≤ 4611686018427387903) :
    Calls Try.prog 11 #[.pointer (some ⟨g, 0, none⟩), .int .i64 t] w fun e w' => e = .returned (.bool (dueB s t)) ∧ Hid (StpK R24 (.pointer (some ⟨g, 0, none⟩)) (dueG s t) F w w') := by
  obtain ⟨g2, vO, e, hB, ho, hF⟩ := h
  cases e
  have c0 := (hB.cell 0).trans rfl
  have c1 := (hB.cell 1).trans rfl
  have c2 := (hB.cell 2).trans rfl
  have z1 := hB.frozen 1
  have z2 := hB.frozen 2
  have gl := hB.lt
  have hI := hk.I
  have HB := Lib.hid hB
  have HF := Lib.hid hF
  have HO := Lib.hid ho
  obtain ⟨A, d, hv⟩ := own_formN ho
  subst hv
  have HSTAY : Hid (∀ n, dueG s t = s → StpK R24 (.pointer (some ⟨g, 0, none⟩)) (dueG s t) F w (w.drewN n)) := Lib.hid (fun n e => by
    rw [e]
    exact ⟨F, ⟨g, _, rfl, hB, ho, hF⟩, Fr.of_below ⟨rfl, rfl, rfl, Nat.le_refl _, fun _ _ => rfl⟩, fun k hk => .inl hk⟩)
  rcases due_ways s t with ⟨h1, h2, h3⟩ | ⟨h1, h2, h3, h4⟩
  · rw [h1]
    have HST : Hid (∀ n, StpK R24 (.pointer (some ⟨g, 0, none⟩)) (dueG s t) F w (w.drewN n)) := Lib.hid (fun n => HSTAY.out n h2)
    obtain ⟨D, hD⟩ : ∃ D, D = dueG s t := ⟨_, rfl⟩
    rw [← hD] at HST ⊢
    clear HSTAY h1 h2 hD
    obtain ⟨I, a, O⟩ := s
    simp only at *
    cases a with
    | false =>
      clear h3
      go_enter Try.func11, Try.ntmps11
      go_wp2
      go_ret
      exact ⟨rfl, Lib.hid (HST.out 0)⟩
    | true =>
      obtain ⟨x, hx, hlt⟩ := h3 rfl
      obtain ⟨L, hL⟩ : ∃ L, O = L ++ [x] := List.getLast?_eq_some_iff.1 hx
      have hxb := hk.O x (by rw [hL]; simp)
      obtain ⟨b, c, eb, _, lb, cc⟩ := own_ints ho (by rw [hL]; simp)
      have hq := cc L.length (by rw [hL]; simp)
      have hxe : O.getD L.length 0 = x := by rw [hL]; simp
      rw [hxe] at hq
      injection eb with eb _ _
      subst eb
      obtain ⟨M, hM⟩ : ∃ M, M = L.length := ⟨_, rfl⟩
      have hN : O.length = M + 1 := by rw [hL, hM]; simp
      rw [hN] at c2 hl
      rw [← hM] at hq
      have e1 : ((M + 1 : Nat) : Int) - 1 = (M : Int) := by omega
      clear cc hL hM hN hx hxe h3 HB HF HO ho hB hF hk
      go_enter Try.func11, Try.ntmps11
      go_upto_region 4 with (fail)
      go_quiet (fail)
      go_wp2
      go_ret
      exact ⟨rfl, Lib.hid (HST.out _)⟩
  · rw [h1]
    obtain ⟨N, hN⟩ : ∃ N, N = s.O.length := ⟨_, rfl⟩
    have HGR : Hid (∀ n v1 w2, w2.ownsRow 0 2 1 v1 (N + 1) (icells s.O ++ [.int .i64 t]) → (((w.drewN n).setCell ⟨g, 1, none⟩ (.bool false)).alloc (.cells #[.int .i64 t] 2)).grownBy w2 (Value.slice A N d).ownBlock → (v1.ownBlock = (Value.slice A N d).ownBlock ∨ v1.ownBlock = some (((w.drewN n).setCell ⟨g, 1, none⟩ (.bool false)).alloc (.cells #[.int .i64 t] 2)).heap.size) → (w2.cell? ⟨g, 2, none⟩ = some (.slice A N d) ∧ w2.frozen? ⟨g, 2, none⟩ = false ∧ g < w2.heap.size) ∧ StpK R24 (.pointer (some ⟨g, 0, none⟩)) (dueG s t) F w (w2.setCell ⟨g, 2, none⟩ v1)) := Lib.hid (fun n v1 w2 o1 o2 o3 => by
      rw [hN] at o1 o2 o3
      have hb : Below w.heap.size w (w.drewN n) := ⟨rfl, rfl, rfl, Nat.le_refl _, fun _ _ => rfl⟩
      have := grown24 (w := w.drewN n) (e0 := []) hB ho hF o1 o2 o3
      obtain ⟨F', k1, k2, k3⟩ := this.2
      rw [h2, hN]
      exact ⟨⟨(this.1.cell 2).trans rfl, this.1.frozen 2, this.1.lt⟩, F', k1, Fr.behind hb k2, k3⟩)
    have HO1 : Hid (∀ n, ((w.drewN n).setCell ⟨g, 1, none⟩ (.bool false)).ownsRow 0 2 1 (.slice A N d) N (icells s.O)) := Lib.hid (fun n => by
      rw [hN]
      exact own_fr (w := w) ho (Fr.trans (G := fun k => k = g) (.of_below (w2 := w.drewN n) ⟨rfl, rfl, rfl, Nat.le_refl _, fun _ _ => rfl⟩) (Fr.of_only (F := fun k => k = g) (Only.set _ _ _ _) rfl) (fun _ e => .inl e)) (fun k hk e => own_ne ho hB neG (by rw [← e]; exact hk)))
    rw [← hN] at c2 hl
    obtain ⟨D, hD⟩ : ∃ D, D = dueG s t := ⟨_, rfl⟩
    rw [← hD] at HGR ⊢
    clear HSTAY h1 h2 hD HB HF HO
    obtain ⟨I, a, O⟩ := s
    simp only at *
    subst h3
    by_cases hO : O = []
    · obtain rfl : N = 0 := by rw [hN, hO]; rfl
      clear hN ho hB hF hk h4 hO
      go_enter Try.func11, Try.ntmps11
      go_upto_region 4 with (fail)
      go_quiet (fail)
      go_wp2_with (at_builtin; refine wpList_appV rfl (.tmp 42) (.tmp 44) e64G rfl 0 (.slice A 0 d) 0 (icells O) rfl ((HO1.out _).alloc _) _ rfl [.int .i64 t] rfl (by simp [Value.oneCell']) (BlkV.new_at _ _ _ _ _ (by simp) rfl) (by omega) (Nat.zero_le _) ?_; intro u1 w2 hown hg hnw; obtain ⟨B1, e1, hv⟩ := own_formN hown; subst hv; have K2 := HGR.out _ _ w2 hown hg hnw; obtain ⟨q0, q1, q2⟩ := K2.1; have HK2 := Lib.hid K2.2; clear K2 hown hg hnw)
      go_ret
      exact ⟨rfl, HK2⟩
    · obtain ⟨x, hx⟩ : ∃ x, O.getLast? = some x := by
        cases h : O.getLast? with
        | none => exact absurd (List.getLast?_eq_none_iff.1 h) hO
        | some x => exact ⟨x, rfl⟩
      have hge := h4 x hx
      simp only at hge
      obtain ⟨L, hL⟩ : ∃ L, O = L ++ [x] := List.getLast?_eq_some_iff.1 hx
      have hxb := hk.O x (by rw [hL]; simp)
      obtain ⟨b, c, eb, _, lb, cc⟩ := own_ints ho (by rw [hL]; simp)
      have hq := cc L.length (by rw [hL]; simp)
      have hxe : O.getD L.length 0 = x := by rw [hL]; simp
      rw [hxe] at hq
      injection eb with eb _ ed
      subst eb
      subst ed
      obtain ⟨M, hM⟩ : ∃ M, M = L.length := ⟨_, rfl⟩
      obtain rfl : N = M + 1 := by rw [hN, hL, hM]; simp
      rw [← hM] at hq
      have e1 : ((M + 1 : Nat) : Int) - 1 = (M : Int) := by omega
      have e2 : (0 : Int) < ((M + 1 : Nat) : Int) := by omega
      clear cc hL hM hN hx hxe ho hB hF hk h4 hO
      go_enter Try.func11, Try.ntmps11
      go_upto_region 4 with (fail)
      go_quiet (fail)
      go_wp2_with (at_builtin; refine wpList_appV rfl (.tmp 42) (.tmp 44) e64G rfl 0 (.slice (some ⟨b, 0, none⟩) (M + 1) d) (M + 1) (icells O) rfl ((HO1.out _).alloc _) _ rfl [.int .i64 t] rfl (by simp [Value.oneCell']) (BlkV.new_at _ _ _ _ _ (by simp) rfl) (by omega) (Nat.zero_le _) ?_; intro u1 w2 hown hg hnw; obtain ⟨B1, e1, hv⟩ := own_formN hown; subst hv; have K2 := HGR.out _ _ w2 hown hg hnw; obtain ⟨q0, q1, q2⟩ := K2.1; have HK2 := Lib.hid K2.2; clear K2 hown hg hnw)
      go_ret
      exact ⟨rfl, HK2⟩
end Go.Proofs.Ythgenpokpoiakaa
