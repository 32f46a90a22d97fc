/- Contract of package ring: Indices. No statement is proved here. -/
import Derived.Test.YtjbeheegciacpaaRngP3
import Derived.Test.YtjbeheegciacpaaElts
namespace Go.Proofs.Ytjbeheegciacpaa
open Go.RowKit Go.Sort
set_option linter.unusedVariables false

/-- The first k indices stand in a row of the call's own. -/
structure IndW (w : World) (xs : List Int) (k : Nat) (v : Value) (wr : World) : Prop where
  own : wr.ownsRow w.heap.size 2 1 v k (icells (xs.take k))
  below : Below w.heap.size w wr
set_option maxHeartbeats 4000000 in
set_option maxRecDepth 100000 in
theorem ind19_any (w : World) (g : Nat) (s : Rgs) (A : Option Addr) (c : Nat) (X : List Pks) (F : Nat → Prop) (h : RAt w g s A c X F) :
    Calls Try.prog 18 #[.pointer (some ⟨g, 0, none⟩)] w fun e w' => ∃ A c, e = .returned (.slice A s.L.length c) ∧ Hid (RdJ w' A s.L.length (s.L.map (·.1)) ∧ Below w.heap.size w w') := by
  have hc2 := h.c2
  have hlen := h.len
  have hfew := h.few
  have HR : Hid (∀ wr, Below w.heap.size w wr → RowP wr A c X) := Lib.hid (fun wr hb => (h.below hb).row)
  obtain ⟨xs, hxs⟩ : ∃ xs, xs = s.L.map (·.1) := ⟨_, rfl⟩
  have hxl : xs.length = s.L.length := by rw [hxs, List.length_map]
  have hXx : ∀ k (h1 : k < X.length), xs.getD k 0 = X[k].1.1 := fun k h1 => by
    rw [hxs, ← h.eq]
    simp [List.getD, h1]
  have HX := Lib.hid hXx
  rw [← hxs]
  obtain ⟨n, hn⟩ : ∃ n, n = s.L.length := ⟨_, rfl⟩
  rw [← hn] at hc2 hlen hfew hxl ⊢
  clear h hXx hn hxs
  go_enter Try.func18, Try.ntmps18
  go_wp2
  go_loopw [3, 13] (fun v vi wr => ∃ (k : Nat) (B : Option Addr) (d : Nat), k ≤ n ∧ v = .slice B k d ∧ vi = .int .i64 k ∧ Hid (IndW w xs k (.slice B k d) wr)) (fun _ i _ => n - (intOf i).toNat)
  case atStart => exact ⟨0, none, 0, by omega, rfl, rfl, Lib.hid ⟨by simpa [icells] using World.ownsRow_nil w _ _ _, Below.refl _ _⟩⟩
  case round =>
    obtain ⟨k, B, d, hk, rfl, rfl, HI⟩ := hrel
    by_cases hlt : k < n
    · obtain ⟨b, off, hA, hb, r0, r1⟩ := (HR.out wr HI.out.below).at0 (k := k) (by omega)
      subst hA
      have hx := HX.out k (by omega)
      obtain ⟨y, hy⟩ : ∃ y, y = X[k].1.1 := ⟨_, rfl⟩
      obtain ⟨l, hl⟩ : ∃ l, l = X[k].1.2.length := ⟨_, rfl⟩
      obtain ⟨A1, hA1⟩ : ∃ A1, A1 = X[k].2.1 := ⟨_, rfl⟩
      obtain ⟨c1, hc1⟩ : ∃ c1, c1 = X[k].2.2 := ⟨_, rfl⟩
      rw [← hy] at r0 hx
      rw [← hA1, ← hl, ← hc1] at r1
      have hst : xs.take (k + 1) = xs.take k ++ [y] := by
        rw [List.take_succ_eq_append_getElem (by omega), ← hx]
        simp [List.getD, show k < xs.length by omega]
      have HST := Lib.hid hst
      have hki : (k : Int) < (n : Int) := by omega
      have HB2 : Hid (∀ o o2 : Obj, Below w.heap.size w ((wr.alloc o).alloc o2)) := Lib.hid (fun o o2 => (HI.out.below.alloc HI.out.below.size o).alloc (by have := HI.out.below.size; simp; omega) o2)
      have hsz := HI.out.below.size
      clear hst hx hy hl hA1 hc1
      go_wp2_with (at_builtin; refine wpList_appV rfl (.tmp 17) (.tmp 20) e64R rfl w.heap.size (.slice B k d) k (icells (xs.take k)) rfl ((HI.out.own.alloc _).alloc _) _ rfl [.int .i64 y] rfl (by simp [Value.oneCell']) (BlkV.new_at _ _ _ _ _ (by simp) rfl) (by omega) (by simp; omega) ?_; intro v1 w2 hown hg hnw; obtain ⟨B1, d1, hv⟩ := own_formN hown; subst hv; have HN2 := Lib.hid (IndW.mk (w := w) (xs := xs) (k := k + 1) (v := .slice B1 (k + 1) d1) (wr := w2) (by rw [HST.out, icells_snoc]; exact hown) ((HB2.out _ _).grown hg (HB2.out _ _).size (fun p hp => (HI.out.own.lt p hp).1))); clear hown hg hnw)
      go_roundw
      case rel => exact ⟨k + 1, B1, d1, by omega, rfl, by go_num, HN2⟩
      case measure => simp [intOf]; omega
    · obtain rfl : k = n := by omega
      have HJ : Hid (RdJ wr B k xs ∧ Below w.heap.size w wr) := Lib.hid ⟨by have := HI.out.own; rw [List.take_of_length_le (by omega)] at this; exact RdJ.of_own this, HI.out.below⟩
      clear HI
      go_wp2
      go_ret
      exact ⟨B, d, rfl, HJ⟩
end Go.Proofs.Ytjbeheegciacpaa
