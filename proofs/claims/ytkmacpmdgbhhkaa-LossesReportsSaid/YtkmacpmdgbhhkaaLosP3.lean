/- Contracts of package losses: New, Missing, forget. No statement is proved here. -/
import Derived.Test.YtkmacpmdgbhhkaaLosP2
import Derived.Test.YtkmacpmdgbhhkaaLosR6
import Derived.Test.YtkmacpmdgbhhkaaRdJ
import Derived.Test.YtkmacpmdgbhhkaaLosL1
namespace Go.Proofs.Ytkmacpmdgbhhkaa
open Go.RowKit
set_option linter.unusedVariables false

theorem blk_ne20 {w : World} {a b : Nat} {e e' : TypeId} {cs ds : List Value} (h : BlkV w a e cs) (k : BlkV w b e' ds) (hne : e ≠ e') : a ≠ b := by
  intro hab
  subst hab
  have := h.symm.trans k
  injection this with this
  injection this with _ this _
  exact hne this
theorem filter_map20 (X : List Pk20) (f : Mis → Bool) : (X.filter fun x => f x.mis).map Pk20.mis = (X.map Pk20.mis).filter f := by
  rw [List.filter_map]
  rfl
section
variable {w w1 : World} {g : Nat} {s : Kpr} {A : Option Addr} {c : Nat} {X : List Pk20} {F : Nat → Prop}
theorem KAt.slot (h : KAt w g s A c X F) : w.cell? ⟨g, 3, none⟩ = some (.slice A X.length c) ∧ w.frozen? ⟨g, 3, none⟩ = false ∧ g < w.heap.size := ⟨(h.k.cell 3).trans rfl, h.k.frozen 3, h.k.lt⟩
/-- What a filter in place makes of a keeper. -/
theorem KAt.cut (h : KAt w g s A c X F) {Y : List Pk20} (hY : ∀ y ∈ Y, y ∈ X) {m : Nat} (hm : m = Y.length) (hr : w1.ownsRow 0 60 1 (.slice A m c) m (Y.map Pk20.p)) (hf : Fr (fun k => (Value.slice A X.length c).ownBlock = some k) w w1) :
    ∃ F2, KAt (w1.setCell ⟨g, 3, none⟩ (.slice A m c)) g { s with M := Y.map Pk20.mis } A c Y F2 ∧ Fr F w (w1.setCell ⟨g, 3, none⟩ (.slice A m c)) ∧ ∀ k, F2 k → F k := by
  subst hm
  have hne : (Value.slice A X.length c).ownBlock ≠ some g := own_ne h.row h.k (by decide)
  have ho := Only.set w1 g 3 (.slice A Y.length c)
  have hk1 : BlkV w1 g 56 _ := h.k.fr hf hne
  refine ⟨fun k => k = g ∨ (Value.slice A Y.length c).ownBlock = some k ∨ ∃ x ∈ Y, k = x.q, ⟨hk1.set_ 3 _, own_at_same hr (fun k hk => ho.block k (fun e => ?_)), fun x hx => ?_, fun x hx => h.bd x (hY x hx), rfl, fun k => Iff.rfl⟩, ?_, ?_⟩
  · subst e
    exact own_ne hr hk1 (by decide) hk
  · refine BlkV.only ?_ ho (blk_ne20 (h.pk x (hY x hx)) h.k (by decide))
    exact (h.pk x (hY x hx)).fr hf (own_ne h.row (h.pk x (hY x hx)) (by decide))
  · exact (hf.mono (fun i hi => (h.own i).2 (.inr (.inl hi)))).trans (Fr.of_only (F := fun k => k = g) ho rfl) (fun i hi => .inl ((h.own i).2 (.inl hi)))
  · rintro k (h1 | h1 | ⟨x, h1, h2⟩)
    · exact (h.own k).2 (.inl h1)
    · refine (h.own k).2 (.inr (.inl ?_))
      rw [← h1]; cases A <;> rfl
    · exact (h.own k).2 (.inr (.inr ⟨x, hY x h1, h2⟩))
end
set_option maxHeartbeats 1000000 in
theorem forget_any20 (w : World) (g : Nat) (s : Kpr) (A : Option Addr) (c : Nat) (X : List Pk20) (F : Nat → Prop) (f : Nat) (lb : Array Value) (pr : Pk20 → Bool) (h : KAt w g s A c X F) (hfew : X.length ≤ 1000000) (hG : Goes20 f lb pr X (fun W => Fr (fun k => (Value.slice A X.length c).ownBlock = some k) w W)) :
    Calls Try.prog 22 #[.pointer (some ⟨g, 0, none⟩), .func (.func f) #[] lb] w fun e w' => e = .returned (.tuple #[]) ∧ Hid (∃ F2, KAt w' g { s with M := (X.filter fun x => !pr x).map Pk20.mis } A c (X.filter fun x => !pr x) F2 ∧ Fr F w w' ∧ ∀ k, F2 k → F k) := by
  have HD := Lib.hid (delf_any20 w A c X f lb pr h.row hfew hG)
  obtain ⟨c3, f3, hg⟩ := h.slot
  have HK := Lib.hid (fun w1 m hm hr hf => h.cut (w1 := w1) (Y := X.filter fun x => !pr x) (m := m) (fun y hy => (List.mem_filter.1 hy).1) hm hr hf)
  obtain ⟨n, hn⟩ : ∃ n, n = X.length := ⟨_, rfl⟩
  have HS : Hid (∀ (w1 : World), Fr (fun k => (Value.slice A X.length c).ownBlock = some k) w w1 → w1.cell? ⟨g, 3, none⟩ = some (.slice A n c) ∧ w1.frozen? ⟨g, 3, none⟩ = false ∧ g < w1.heap.size) := Lib.hid (fun w1 hf => by
    have hk1 : BlkV w1 g 56 _ := h.k.fr hf (own_ne h.row h.k (by decide))
    exact ⟨by rw [hn]; exact (hk1.cell 3).trans rfl, hk1.frozen 3, hk1.lt⟩)
  have HD : Hid (Calls Try.prog 33 #[.slice A n c, .func (.func f) #[] lb] w (Deld20 w A c X pr)) := Lib.hid (by rw [hn]; exact HD.out)
  rw [← hn] at c3
  clear h hG hn
  go_enter Try.func22, Try.ntmps22
  go_wp2_with (go_at_call 33; ((with_reducible refine HD.out.mono ?_); rintro e w1 ⟨m, hm, rfl, H1⟩; obtain ⟨d3, e3, hg1⟩ := HS.out w1 H1.out.2; have HM := Lib.hid hm; clear hm))
  go_end0
  exact ⟨rfl, Lib.hid (HK.out w1 m HM.out H1.out.1 H1.out.2)⟩
theorem new_any20 (p : Int) (w : World) (hp : -9223372036854775808 ≤ p ∧ p ≤ 9223372036854775807) :
    Calls Try.prog 8 #[.int .i64 p] w fun e w' => ∃ q F, e = .returned (.pointer (some q)) ∧ Hid (T20 w' (.pointer (some q)) (newK p) F ∧ (∀ k, F k → w.heap.size ≤ k) ∧ Below w.heap.size w w') := by
  have HT : Hid (∀ v : Int, v = (newK p).p → ∃ F, T20 (w.alloc (.cells #[.int .i64 v, .bool false, .int .i64 0, .slice none 0 0] 56)) (.pointer (some ⟨w.heap.size, 0, none⟩)) (newK p) F ∧ (∀ k, F k → w.heap.size ≤ k) ∧ Below w.heap.size w (w.alloc (.cells #[.int .i64 v, .bool false, .int .i64 0, .slice none 0 0] 56))) := Lib.hid (fun v hv => by
    refine ⟨fun k => k = w.heap.size ∨ (Value.slice none 0 0).ownBlock = some k ∨ ∃ x ∈ ([] : List Pk20), k = x.q, ⟨w.heap.size, none, 0, [], rfl, Lib.hid ⟨?_, World.ownsRow_nil _ _ _ _, by simp, by simp, rfl, fun k => Iff.rfl⟩⟩, ?_, (Below.refl _ _).alloc (Nat.le_refl _) _⟩
    · exact BlkV.new_at _ _ _ _ _ rfl (by rw [hv]; rfl)
    · rintro k (h1 | h1 | ⟨x, h1, _⟩)
      · omega
      · cases h1
      · cases h1)
  by_cases h1 : p < 1
  · have e : (1 : Int) = (newK p).p := by simp [newK, h1]
    have hm : ¬ (1 : Int) < p := by omega
    have HE := Lib.hid e
    clear e
    go_enter Try.func8, Try.ntmps8
    go_wp2
    go_ret
    obtain ⟨F, hF⟩ := HT.out 1 HE.out
    exact ⟨_, rfl, F, Lib.hid hF⟩
  · have e : p = (newK p).p := by simp [newK, h1]
    have HE := Lib.hid e
    clear e
    by_cases hm : 1 < p
    · go_enter Try.func8, Try.ntmps8
      go_wp2
      go_ret
      obtain ⟨F, hF⟩ := HT.out p HE.out
      exact ⟨_, rfl, F, Lib.hid hF⟩
    · obtain rfl : p = 1 := by omega
      go_enter Try.func8, Try.ntmps8
      go_wp2
      go_ret
      obtain ⟨F, hF⟩ := HT.out 1 HE.out
      exact ⟨_, rfl, F, Lib.hid hF⟩
/-- The first k indices stand in a row of the call's own. -/
structure MisW (w : World) (xs : List Int) (k : Nat) (v : Value) (wr : World) : Prop where
  own : wr.ownsRow w.heap.size 2 1 v k (icells (xs.take k))
  below : Below w.heap.size w wr
set_option maxHeartbeats 1000000 in
theorem missing_any20 (w : World) (g : Nat) (s : Kpr) (A : Option Addr) (c : Nat) (X : List Pk20) (F : Nat → Prop) (h : KAt w g s A c X F) (ok : KOk s) :
    Calls Try.prog 15 #[.pointer (some ⟨g, 0, none⟩)] w fun e w' => ∃ A c, e = .returned (.slice A s.M.length c) ∧ Hid (RdJ w' A s.M.length (s.M.map (·.i)) ∧ Below w.heap.size w w') := by
  obtain ⟨c3, f3, hg⟩ := h.slot
  have hfew := lenP20 h ok
  have HR : Hid (∀ wr, Below w.heap.size w wr → ∀ k (hk : k < X.length), ∃ b, A = some ⟨b, 0, none⟩ ∧ wr.cell? ⟨b, k, none⟩ = some (X[k]'hk).p ∧ wr.cell? ⟨(X[k]'hk).q, 0, none⟩ = some (.int .i64 (X[k]'hk).i)) := Lib.hid (fun wr hb k hk => by
    obtain ⟨b, h1, h2, h3⟩ := own_cell20 h.row hk
    have hx := h.pk _ (List.getElem_mem hk)
    exact ⟨b, h1, (hb.cell (p := ⟨b, k, none⟩) h2).trans h3, (hb.cell (p := ⟨(X[k]'hk).q, 0, none⟩) hx.lt).trans ((hx.cell 0).trans rfl)⟩)
  obtain ⟨xs, hxs⟩ : ∃ xs, xs = s.M.map (·.i) := ⟨_, rfl⟩
  have hsl : s.M.length = X.length := by rw [← h.eq, List.length_map]
  have hxl : xs.length = X.length := by rw [hxs, List.length_map, hsl]
  have hXx : ∀ k (h1 : k < X.length), xs.getD k 0 = (X[k]'h1).i := fun k h1 => by
    rw [hxs, ← h.eq]
    simp [List.getD, h1, Pk20.mis]
  have HX := Lib.hid hXx
  rw [← hxs, hsl]
  obtain ⟨n, hn⟩ : ∃ n, n = X.length := ⟨_, rfl⟩
  have HN := Lib.hid hn
  rw [← hn] at c3 hfew hxl ⊢
  clear h hXx hn hxs hsl
  go_enter Try.func15, Try.ntmps15
  go_wp2
  go_loopw [3, 13] (fun v vi wr => ∃ (k : Nat) (B : Option Addr) (d : Nat), k ≤ n ∧ v = .slice B k d ∧ vi = .int .i64 k ∧ Hid (MisW w xs k (.slice B k d) wr)) (fun _ i _ => n - (intOf i).toNat)
  case atStart => exact ⟨0, none, 0, by omega, rfl, rfl, Lib.hid ⟨by simpa [icells] using World.ownsRow_nil w _ _ _, Below.refl _ _⟩⟩
  case round =>
    obtain ⟨k, B, d, hk, rfl, rfl, HI⟩ := hrel
    by_cases hlt : k < n
    · have hlx : k < X.length := by rw [← HN.out]; exact hlt
      obtain ⟨b, hA, r0, r1⟩ := HR.out wr HI.out.below k hlx
      subst hA
      have hx := HX.out k hlx
      obtain ⟨y, hy⟩ : ∃ y, y = (X[k]'hlx).i := ⟨_, rfl⟩
      obtain ⟨q, hq⟩ : ∃ q, q = (X[k]'hlx).q := ⟨_, rfl⟩
      simp only [Pk20.p, ← hq, ← hy] at r0 r1 hx
      have hst : xs.take (k + 1) = xs.take k ++ [y] := by
        rw [List.take_succ_eq_append_getElem (by omega), ← hx]
        simp [List.getD, show k < xs.length by omega]
      have HST := Lib.hid hst
      have hki : (k : Int) < (n : Int) := by omega
      have HB2 : Hid (∀ o : Obj, Below w.heap.size w (wr.alloc o)) := Lib.hid (fun o => HI.out.below.alloc HI.out.below.size o)
      have hsz := HI.out.below.size
      clear hst hx hy hq hlx
      go_wp2_with (at_builtin; refine wpList_appV rfl (.tmp 17) (.tmp 22) e64K rfl w.heap.size (.slice B k d) k (icells (xs.take k)) rfl (HI.out.own.alloc _) _ rfl [.int .i64 y] rfl (by simp [Value.oneCell']) (BlkV.new_at _ _ _ _ _ (by simp) rfl) (by omega) (by simp; omega) ?_; intro v1 w2 hown hg2 hnw; obtain ⟨B1, d1, hv⟩ := own_formN hown; subst hv; have HN2 := Lib.hid (MisW.mk (w := w) (xs := xs) (k := k + 1) (v := .slice B1 (k + 1) d1) (wr := w2) (by rw [HST.out, icells_snoc]; exact hown) ((HB2.out _).grown hg2 (HB2.out _).size (fun p hp => (HI.out.own.lt p hp).1))); clear hown hg2 hnw)
      go_roundw
      case rel => exact ⟨k + 1, B1, d1, by omega, rfl, by go_num, HN2⟩
      case measure => simp [intOf]; omega
    · obtain rfl : k = n := by omega
      have HJ : Hid (RdJ wr B k xs ∧ Below w.heap.size w wr) := Lib.hid ⟨by have := HI.out.own; rw [List.take_of_length_le (by omega)] at this; exact RdJ.of_own this, HI.out.below⟩
      clear HI
      go_wp2
      go_ret
      exact ⟨B, d, rfl, HJ⟩
theorem missingNil_any20 (w : World) : Calls Try.prog 15 #[.pointer none] w fun e w' => ∃ A c, e = .returned (.slice A 0 c) ∧ Hid (Below w.heap.size w w') := by
  go_enter Try.func15, Try.ntmps15
  go_wp2
  go_ret
  exact ⟨none, 0, rfl, Lib.hid (Below.refl _ _)⟩
theorem askNil_any20 (w : World) (tk : Int) : Calls Try.prog 11 #[.pointer none, .int .i64 tk] w fun e w' => ∃ A c, e = .returned (.slice A 0 c) ∧ Hid (Below w.heap.size w w') := by
  go_enter Try.func11, Try.ntmps11
  go_wp2
  go_ret
  exact ⟨none, 0, rfl, Lib.hid (((Below.refl _ _).alloc (Nat.le_refl _) _).alloc (by simp) _)⟩
theorem cameNil_any20 (w : World) (i tk : Int) : Calls Try.prog 13 #[.pointer none, .int .i64 i, .int .i64 tk] w fun e w' => e = .returned (.tuple #[]) ∧ Hid (Below w.heap.size w w') := by
  go_enter Try.func13, Try.ntmps13
  go_wp2
  go_end0
  exact ⟨rfl, Lib.hid ((Below.refl _ _).alloc (Nat.le_refl _) _)⟩
end Go.Proofs.Ytkmacpmdgbhhkaa
