/- Contracts of package layers: Take; what the laws ask, brought together. No statement is proved here. -/
import Derived.Test.YtejkballndfmmaaLayP1
namespace Go.Proofs.Ytejkballndfmmaa
open Go.RowKit
set_option linter.unusedVariables false

theorem rowTo23 : RowTy Try.prog 47 2 := ⟨_, Try.underlying47, rfl, by kernel_rfl⟩
theorem zTo23 (wx : World) : (zeroValue 47).run Try.prog wx = .ok (.agg #[.bool false, .bool false]) wx := by kernel_rfl
theorem oneBB : ∀ v ∈ [Value.bool true, Value.bool true], v.oneCell' = true := by simp [Value.oneCell']
theorem stay_any23 (g : Nat) (s : Chs) (l : Int) (k x : Bool) (w : World) (h : PLay w g s) (ok : OkC s) (hx : (l == s.g) = x) :
    Calls Try.prog 17 #[.pointer (some ⟨g, 0, none⟩), .int .i64 l, .bool k] w fun e w' => e = .returned (.agg #[.bool x, .bool false]) ∧ Below w.heap.size w w' := by
  have hz := zTo23
  have HB := Lib.hid ((Below.refl w.heap.size w).alloc (Nat.le_refl _) (.cells #[.bool x, .bool false] 47))
  have HN : BlkV (w.alloc (.cells #[.bool x, .bool false] 47)) w.heap.size 47 [.bool x, .bool false] := BlkV.new w _ [.bool x, .bool false]
  have HG : Hid (∀ o, Calls Try.prog 14 #[.pointer (some ⟨g, 0, none⟩)] (w.alloc o) fun e w' => e = .returned (.int .i64 s.g) ∧ w' = w.alloc o) := Lib.hid (fun o => goes_any23 g s _ (h.below ((Below.refl _ _).alloc (Nat.le_refl _) _)) ok)
  clear h ok
  obtain ⟨m, wa, y⟩ := s
  simp only at HG hx
  go_enter Try.func17, Try.ntmps17
  go_wp2_with (go_at_call 14; ((with_reducible refine (HG.out _).mono ?_); rintro e w1 ⟨rfl, rfl⟩))
  exact ret_row (by rfl) (by rfl) HN rowTo23 (by rfl) ⟨rfl, HB.out⟩
theorem turn_no23 (g : Nat) (s : Chs) (l : Int) (k : Bool) (w : World) (h : PLay w g s) (ok : OkC s) (hx : ¬ (k = true ∧ l = s.w)) :
    Calls Try.prog 18 #[.pointer (some ⟨g, 0, none⟩), .int .i64 l, .bool k] w fun e w' => e = .returned (.agg #[.bool false, .bool false]) ∧ Below w.heap.size w w' := by
  have hz := zTo23
  have HB := Lib.hid ((Below.refl w.heap.size w).alloc (Nat.le_refl _) (.cells #[.bool false, .bool false] 47))
  have HN : BlkV (w.alloc (.cells #[.bool false, .bool false] 47)) w.heap.size 47 [.bool false, .bool false] := BlkV.new w _ [.bool false, .bool false]
  have HW : Hid (∀ o, Calls Try.prog 13 #[.pointer (some ⟨g, 0, none⟩)] (w.alloc o) fun e w' => e = .returned (.int .i64 s.w) ∧ w' = w.alloc o) := Lib.hid (fun o => wanted_any23 g s _ (h.below ((Below.refl _ _).alloc (Nat.le_refl _) _)) ok)
  clear h ok
  obtain ⟨m, x, y⟩ := s
  simp only at HW hx
  cases k with
  | false =>
    clear hx
    go_enter Try.func18, Try.ntmps18
    go_wp2
    exact ret_row (by rfl) (by rfl) HN rowTo23 (by rfl) ⟨rfl, HB.out⟩
  | true =>
    have hd : (l != x) = true := by simpa [bne] using fun e => hx ⟨rfl, e⟩
    clear hx
    go_enter Try.func18, Try.ntmps18
    go_wp2_with (go_at_call 13; ((with_reducible refine (HW.out _).mono ?_); rintro e w1 ⟨rfl, rfl⟩))
    exact ret_row (by rfl) (by rfl) HN rowTo23 (by rfl) ⟨rfl, HB.out⟩
set_option maxRecDepth 100000 in
theorem turn_yes23 (g : Nat) (s : Chs) (F : Nat → Prop) (l : Int) (w : World) (h : PLay w g s) (hF : ∀ k, F k ↔ k = g) (ok : OkC s) (hx : l = s.w) (h0 : 0 ≤ l) :
    Calls Try.prog 18 #[.pointer (some ⟨g, 0, none⟩), .int .i64 l, .bool true] w fun e w' => e = .returned (.agg #[.bool true, .bool true]) ∧ Hid (StpK T23 (.pointer (some ⟨g, 0, none⟩)) ⟨s.m, s.w, l⟩ F w w') := by
  have hz := zTo23
  have HF := Lib.hid hF
  have HW : Hid (∀ o, Calls Try.prog 13 #[.pointer (some ⟨g, 0, none⟩)] (w.alloc o) fun e w' => e = .returned (.int .i64 s.w) ∧ w' = w.alloc o) := Lib.hid (fun o => wanted_any23 g s _ (h.below ((Below.refl _ _).alloc (Nat.le_refl _) _)) ok)
  have HP : Hid (∀ o, PLay (w.alloc o) g s) := Lib.hid (fun o => h.below ((Below.refl _ _).alloc (Nat.le_refl _) _))
  have HL := Lib.hid h.lt
  have HNE : Hid (w.heap.size ≠ g) := Lib.hid (by have := HL.out; omega)
  have HS : Hid (∀ wx, PLay wx g s → PLay (wx.setCell ⟨g, 2, none⟩ (.int .i64 (s.w + 1))) g ⟨s.m, s.w, l⟩) := Lib.hid fun wx hh => ⟨by rw [hx]; exact BlkV.set_ hh.blk 2 _, fun e => by simp only at e; omega⟩
  obtain ⟨m, x, y⟩ := s
  simp only at hx HW HP HS ⊢
  subst hx
  clear h hF ok
  go_enter Try.func18, Try.ntmps18
  go_wp2_with (first
    | (go_at_call 13; ((with_reducible refine (HW.out _).mono ?_); rintro e w1 ⟨rfl, hw1⟩; have HP1 : PLay w1 g ⟨m, l, y⟩ := (by rw [hw1]; exact HP.out _); have c1 := HP1.c1; have c2 := HP1.c2; have f2 := HP1.fr 2; simp only at c1 c2; have HPP := Lib.hid HP1; have HN : Hid (BlkV w1 w.heap.size 47 [.bool false, .bool false]) := Lib.hid (by rw [hw1]; exact BlkV.new w _ [.bool false, .bool false]); have HB1 : Hid (Below w.heap.size w w1) := Lib.hid (by rw [hw1]; exact (Below.refl _ _).alloc (Nat.le_refl _) _); clear HP1 hw1))
    | (refine wpList_st rfl 47 (.tmp 6) (.tmp 23) rfl w.heap.size 0 [.bool true, .bool true] rfl rfl 47 _ (BlkV.far (p := ⟨g, 2, none⟩) HN.out HNE.out (.int .i64 (l + 1))) (Nat.le_refl 2) rowTo23 oneBB ?_; intro w2 hB2 ho2; rw [splice_all _ _ (by rfl)] at hB2))
  exact ret_row (by rfl) (by rfl) hB2 rowTo23 (by rfl) ⟨rfl, Lib.hid ⟨F, ⟨g, rfl, ⟨BlkV.only (HS.out w1 HPP.out).blk ho2 (by have := HL.out; omega), (HS.out w1 HPP.out).wg⟩, HF.out⟩, (Fr.behind HB1.out (Fr.of_only (Only.set _ _ _ _) ((HF.out g).2 rfl))).trans (G := fun k => k = w.heap.size) (Fr.of_only ho2 rfl) (fun i hi => .inr (by omega)), fun k hk => .inl hk⟩⟩
/-- The list of the two ways, behind it. -/
structure Two23 (w : World) (g B : Nat) (s : Chs) (wr : World) : Prop where
  p : PLay wr g s
  b : Below w.heap.size w wr
  z : w.heap.size ≤ B
  blk : BlkV wr B 44 [.func (.func 17) #[.pointer (some ⟨g, 0, none⟩)] #[], .func (.func 18) #[.pointer (some ⟨g, 0, none⟩)] #[]]
theorem Two23.below {w wr w2 : World} {g B : Nat} {s : Chs} (h : Two23 w g B s wr) (hb : Below wr.heap.size wr w2) : Two23 w g B s w2 := ⟨h.p.below hb, h.b.trans (hb.mono h.b.size), h.z, BlkV.below h.blk hb (BlkV.lt h.blk)⟩
theorem take_nil23 (w : World) (l : Int) (k : Bool) :
    Calls Try.prog 9 #[.pointer none, .int .i64 l, .bool k] w fun e w' => e = .returned (.tuple #[.bool false, .bool false]) ∧ Hid (Below w.heap.size w w') := by
  go_enter Try.func9, Try.ntmps9
  go_wp2
  go_ret2
  exact ⟨rfl, Lib.hid (Below.refl _ _)⟩
theorem take_stay {s : Chs} {l : Int} {k : Bool} (h1 : 0 ≤ l ∧ l < s.m) (h : l = s.g) : takeA s l k = true ∧ takeT s l k = false ∧ takeS s l k = s := by
  have e : takeT s l k = false := decide_eq_false (fun x => x.2.2.1 h.symm)
  exact ⟨decide_eq_true ⟨h1.1, h1.2, .inl h.symm⟩, e, by unfold takeS; rw [e]; rfl⟩
theorem take_turn {s : Chs} {l : Int} {k : Bool} (h1 : 0 ≤ l ∧ l < s.m) (hg : l ≠ s.g) (h : k = true ∧ l = s.w) : takeA s l k = true ∧ takeT s l k = true ∧ takeS s l k = ⟨s.m, s.w, l⟩ := by
  have e : takeT s l k = true := decide_eq_true ⟨h1.1, h1.2, fun x => hg x.symm, h.1, h.2.symm⟩
  exact ⟨decide_eq_true ⟨h1.1, h1.2, .inr ⟨h.1, h.2.symm⟩⟩, e, by unfold takeS; rw [e]; rfl⟩
theorem take_no {s : Chs} {l : Int} {k : Bool} (h : ¬ (0 ≤ l ∧ l < s.m) ∨ (l ≠ s.g ∧ ¬ (k = true ∧ l = s.w))) : takeA s l k = false ∧ takeT s l k = false ∧ takeS s l k = s := by
  have e : takeT s l k = false := decide_eq_false (fun x => h.elim (fun y => y ⟨x.1, x.2.1⟩) (fun y => y.2 ⟨x.2.2.2.1, x.2.2.2.2.symm⟩))
  exact ⟨decide_eq_false (fun x => h.elim (fun y => y ⟨x.1, x.2.1⟩) (fun y => x.2.2.elim (fun z => y.1 z.symm) (fun z => y.2 ⟨z.1, z.2.symm⟩))), e, by unfold takeS; rw [e]; rfl⟩
theorem stay_end {w wr w2 : World} {g : Nat} {s : Chs} {F : Nat → Prop} (hF : ∀ k, F k ↔ k = g) (hp : PLay wr g s) (hb : Below w.heap.size w wr) (h2 : Below wr.heap.size wr w2) : StpK T23 (.pointer (some ⟨g, 0, none⟩)) s F w w2 :=
  t23_stp hF (hb.trans (h2.mono hb.size)) (Only.refl _ _) (hp.below h2)
theorem turn_end {w wr w3 w2 : World} {g : Nat} {s2 : Chs} {F : Nat → Prop} (hb : Below w.heap.size w wr) (h : StpK T23 (.pointer (some ⟨g, 0, none⟩)) s2 F wr w3) (h2 : Below w3.heap.size w3 w2) : StpK T23 (.pointer (some ⟨g, 0, none⟩)) s2 F w w2 := by
  obtain ⟨F', k1, k2, k3⟩ := h
  exact ⟨F', lone23.below k1 h2, (Fr.behind hb k2).then h2, fun k hk => (k3 k hk).imp id (fun x => by have := hb.size; omega)⟩
set_option maxRecDepth 100000 in
theorem take_core23 (g : Nat) (s : Chs) (F : Nat → Prop) (l : Int) (k : Bool) (w : World) (xa xt : Bool) (s2 : Chs) (hx : takeA s l k = xa ∧ takeT s l k = xt ∧ takeS s l k = s2) (h : PLay w g s) (hF : ∀ k, F k ↔ k = g) (ok : OkC s) (hl : -9223372036854775808 ≤ l ∧ l ≤ 9223372036854775807) :
    Calls Try.prog 9 #[.pointer (some ⟨g, 0, none⟩), .int .i64 l, .bool k] w fun e w' => e = .returned (.tuple #[.bool xa, .bool xt]) ∧ Hid (StpK T23 (.pointer (some ⟨g, 0, none⟩)) s2 F w w') := by
  have HF := Lib.hid hF
  have HE := Lib.hid hx
  clear hx
  have HH := Lib.hid h
  have HO := Lib.hid ok
  have HC := Lib.hid (has_any23 g s l w h)
  have hmf : ∀ (fn : Fn) (first cap : Array Value) (w : World), (Instr.makeFunc fn first cap).run Try.prog w = .ok (.func fn first cap) w := fun _ _ _ _ => rfl
  have ez := zTo23
  by_cases h1 : 0 ≤ l ∧ l < s.m
  · rw [decide_eq_true h1] at HC
    have HL := Lib.hid h1
    have HB0 : Hid (∀ o, Below w.heap.size w (w.alloc o)) := Lib.hid (fun o => (Below.refl _ _).alloc (Nat.le_refl _) _)
    have HST : Hid (∀ wr x, PLay wr g s → (l == s.g) = x → Calls Try.prog 17 #[.pointer (some ⟨g, 0, none⟩), .int .i64 l, .bool k] wr fun e w' => e = .returned (.agg #[.bool x, .bool false]) ∧ Below wr.heap.size wr w') := Lib.hid (fun wr x hp hx => stay_any23 g s l k x wr hp ok hx)
    have HTN : Hid (∀ wr, PLay wr g s → ¬ (k = true ∧ l = s.w) → Calls Try.prog 18 #[.pointer (some ⟨g, 0, none⟩), .int .i64 l, .bool k] wr fun e w' => e = .returned (.agg #[.bool false, .bool false]) ∧ Below wr.heap.size wr w') := Lib.hid (fun wr hp hx => turn_no23 g s l k wr hp ok hx)
    have HTY : Hid (∀ wr, PLay wr g s → l = s.w → Calls Try.prog 18 #[.pointer (some ⟨g, 0, none⟩), .int .i64 l, .bool true] wr fun e w' => e = .returned (.agg #[.bool true, .bool true]) ∧ Hid (StpK T23 (.pointer (some ⟨g, 0, none⟩)) ⟨s.m, s.w, l⟩ F wr w')) := Lib.hid (fun wr hp hx => turn_yes23 g s F l wr hp hF ok hx h1.1)
    have H2 : Hid (Two23 w g w.heap.size s (w.alloc (.cells #[.func (.func 17) #[.pointer (some ⟨g, 0, none⟩)] #[], .func (.func 18) #[.pointer (some ⟨g, 0, none⟩)] #[]] 44))) := Lib.hid ⟨h.below (HB0.out _), HB0.out _, Nat.le_refl _, BlkV.new w _ [_, _]⟩
    clear h hF ok h1
    go_enter Try.func9, Try.ntmps9
    go_wp2_with (first
      | (go_at_call 16; ((with_reducible refine HC.out.mono ?_); rintro e w1 ⟨rfl, rfl⟩)))
    go_loopw [25] (fun vi wr => ∃ i : Nat, i ≤ 2 ∧ vi = .int .i64 i ∧ Hid (Two23 w1 g w1.heap.size s wr ∧ (1 ≤ i → l ≠ s.g) ∧ (2 ≤ i → ¬ (k = true ∧ l = s.w)))) (fun i _ => 2 - (intOf i).toNat)
    case atStart => exact ⟨0, by omega, rfl, Lib.hid ⟨H2.out, fun x => by omega, fun x => by omega⟩⟩
    case round =>
      clear H2 HC HB0
      obtain ⟨i, hi, rfl, hN⟩ := hrel
      have HR := hN
      have c0 : wr.cell? ⟨w1.heap.size, 0, none⟩ = some (.func (.func 17) #[.pointer (some ⟨g, 0, none⟩)] #[]) := (BlkV.cell hN.out.1.blk 0).trans rfl
      have c1 : wr.cell? ⟨w1.heap.size, 1, none⟩ = some (.func (.func 18) #[.pointer (some ⟨g, 0, none⟩)] #[]) := (BlkV.cell hN.out.1.blk 1).trans rfl
      clear hN
      have hcs : i = 0 ∨ i = 1 ∨ i = 2 := by omega
      rcases hcs with rfl | rfl | rfl
      · by_cases hs : l = s.g
        · have HW := Lib.hid (take_stay (k := k) HL.out hs)
          have HX : Hid ((l == s.g) = true) := Lib.hid (by simp [hs])
          clear hs
          obtain ⟨e1, e2, e3⟩ := HE.out; rw [HW.out.1] at e1; rw [HW.out.2.1] at e2; rw [HW.out.2.2] at e3; subst e1; subst e2; subst e3; clear HE HW
          go_wp2_with (go_at_call 17; ((with_reducible refine (HST.out _ true HR.out.1.p HX.out).mono ?_); rintro e w3 ⟨rfl, hb3⟩; have HB3 := Lib.hid hb3; clear hb3))
          go_quiet (fail)
          go_wp2
          go_ret2
          exact ⟨rfl, Lib.hid (stay_end HF.out HR.out.1.p HR.out.1.b (below_drewN (HB3.out.alloc HB3.out.size _) _))⟩
        · have HX : Hid ((l == s.g) = false) := Lib.hid (by simp [hs])
          have HG := Lib.hid hs
          clear hs
          go_wp2_with (go_at_call 17; ((with_reducible refine (HST.out _ false HR.out.1.p HX.out).mono ?_); rintro e w3 ⟨rfl, hb3⟩; have HB3 := Lib.hid hb3; clear hb3))
          go_roundw
          case rel => exact ⟨1, by omega, by go_num, Lib.hid ⟨HR.out.1.below (HB3.out.alloc HB3.out.size _), fun _ => HG.out, fun x => by omega⟩⟩
          case measure => simp [intOf]
      · by_cases hs : k = true ∧ l = s.w
        · have HW := Lib.hid (take_turn HL.out (HR.out.2.1 (by omega)) hs)
          have HX := Lib.hid hs.2
          have hk := hs.1
          clear hs
          subst hk
          obtain ⟨e1, e2, e3⟩ := HE.out; rw [HW.out.1] at e1; rw [HW.out.2.1] at e2; rw [HW.out.2.2] at e3; subst e1; subst e2; subst e3; clear HE HW
          go_wp2_with (go_at_call 18; ((with_reducible refine (HTY.out _ HR.out.1.p HX.out).mono ?_); rintro e w3 ⟨rfl, hb3⟩; have HB3 := Lib.hid hb3.out; clear hb3))
          go_quiet (fail)
          go_wp2
          go_ret2
          exact ⟨rfl, Lib.hid (turn_end HR.out.1.b HB3.out (below_drewN ((Below.refl _ _).alloc (Nat.le_refl _) _) _))⟩
        · have HG := Lib.hid hs
          clear hs
          go_wp2_with (go_at_call 18; ((with_reducible refine (HTN.out _ HR.out.1.p HG.out).mono ?_); rintro e w3 ⟨rfl, hb3⟩; have HB3 := Lib.hid hb3; clear hb3))
          go_roundw
          case rel => exact ⟨2, by omega, by go_num, Lib.hid ⟨HR.out.1.below (HB3.out.alloc HB3.out.size _), fun _ => HR.out.2.1 (by omega), fun _ => HG.out⟩⟩
          case measure => simp [intOf]
      · have HW := Lib.hid (take_no (.inr ⟨HR.out.2.1 (by omega), HR.out.2.2 (by omega)⟩))
        obtain ⟨e1, e2, e3⟩ := HE.out; rw [HW.out.1] at e1; rw [HW.out.2.1] at e2; rw [HW.out.2.2] at e3; subst e1; subst e2; subst e3; clear HE HW
        go_wp2
        go_ret2
        exact ⟨rfl, Lib.hid (t23_stp HF.out HR.out.1.b (Only.refl _ _) HR.out.1.p)⟩
  · have HW := Lib.hid (take_no (k := k) (.inl h1))
    rw [decide_eq_false h1] at HC
    obtain ⟨e1, e2, e3⟩ := HE.out; rw [HW.out.1] at e1; rw [HW.out.2.1] at e2; rw [HW.out.2.2] at e3; subst e1; subst e2; subst e3; clear HE HW
    clear h hF ok h1
    go_enter Try.func9, Try.ntmps9
    go_wp2_with (go_at_call 16; ((with_reducible refine HC.out.mono ?_); rintro e w1 ⟨rfl, rfl⟩))
    go_ret2
    exact ⟨rfl, Lib.hid (t23_stp HF.out (Below.refl _ _) (Only.refl _ _) HH.out)⟩
theorem take_any23 (g : Nat) (s : Chs) (F : Nat → Prop) (l : Int) (k : Bool) (w : World) (h : PLay w g s) (hF : ∀ k, F k ↔ k = g) (ok : OkC s) (hl : -9223372036854775808 ≤ l ∧ l ≤ 9223372036854775807) :
    Calls Try.prog 9 #[.pointer (some ⟨g, 0, none⟩), .int .i64 l, .bool k] w fun e w' => e = .returned (.tuple #[.bool (takeA s l k), .bool (takeT s l k)]) ∧ Hid (StpK T23 (.pointer (some ⟨g, 0, none⟩)) (takeS s l k) F w w') :=
  take_core23 g s F l k w _ _ _ ⟨rfl, rfl, rfl⟩ h hF ok hl

theorem tells23 : Tells23 T23 where
  lone := lone23
  new_no := fun m w hm h => new_no23 m w hm h
  new_ok := new_ok23
  want := fun w q s F l ⟨g, e, h, hF⟩ ok hl => by injection e with e; injection e with e; subst e; exact want_any23 g s F l w h hF ok hl
  take := fun w q s F l k ⟨g, e, h, hF⟩ ok hl => by injection e with e; injection e with e; subst e; exact take_any23 g s F l k w h hF ok hl
  wanted := fun w q s F ⟨g, e, h, hF⟩ ok => by injection e with e; injection e with e; subst e; exact (wanted_any23 g s w h ok).mono fun _ _ x => ⟨x.1, 0, x.2⟩
  goes := fun w q s F ⟨g, e, h, hF⟩ ok => by injection e with e; injection e with e; subst e; exact (goes_any23 g s w h ok).mono fun _ _ x => ⟨x.1, 0, x.2⟩
  needs := fun w q s F ⟨g, e, h, hF⟩ ok => by injection e with e; injection e with e; subst e; exact needs_any23 g s w h ok
  wantNil := want_nil23
  takeNil := take_nil23
  wantedNil := fun w => (wanted_nil23 w).mono fun _ _ x => ⟨x.1, Lib.hid (x.2 ▸ Below.refl _ _)⟩
  goesNil := fun w => (goes_nil23 w).mono fun _ _ x => ⟨x.1, Lib.hid (x.2 ▸ Below.refl _ _)⟩
  needsNil := fun w => (needs_nil23 w).mono fun _ _ x => ⟨x.1, Lib.hid (x.2 ▸ Below.refl _ _)⟩
end Go.Proofs.Ytejkballndfmmaa
