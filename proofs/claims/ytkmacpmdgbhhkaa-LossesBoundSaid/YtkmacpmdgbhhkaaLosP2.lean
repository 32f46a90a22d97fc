/- Contracts for package losses: slices.IndexFunc and slices.DeleteFunc over a slice of pointers, the closure's word being laid of the pointers that stand there alone. No statement is proved here. -/
import Derived.Test.YtkmacpmdgbhhkaaLosP1
import Derived.Shelf.Abstract
import Derived.WalkKit
import Derived.Lib.SliceRun
namespace Go.Proofs.Ytkmacpmdgbhhkaa
open Go.RowKit
set_option linter.unusedVariables false

/-- A closure that tells of each of these packets whether it goes, in all worlds that meet I. -/
structure Goes20 (f : Nat) (lb : Array Value) (pr : Pk20 → Bool) (X : List Pk20) (I : World → Prop) : Prop where
  eg : ∀ args w, (callFunc f args).run Try.prog w = .ok (.enter f args) w
  is : ∀ W, I W → ∀ x ∈ X, Calls Try.prog f (#[x.p] ++ lb) W fun e w' => e = .returned (.bool (pr x)) ∧ ∃ n, w' = W.drewN n
theorem own_cell20 {w : World} {A : Option Addr} {c : Nat} {X : List Pk20} (h : w.ownsRow 0 60 1 (.slice A X.length c) X.length (X.map Pk20.p)) {k : Nat} (hk : k < X.length) : ∃ b, A = some ⟨b, 0, none⟩ ∧ b < w.heap.size ∧ w.cell? ⟨b, k, none⟩ = some (X[k]'hk).p := by
  obtain ⟨g, c2, hv, _, hlt⟩ := h.form (by omega)
  injection hv with h3 _ _
  refine ⟨g, h3, hlt, ?_⟩
  have h5 := h
  rw [h3] at h5
  rw [h5.cellAt k (by omega)]
  simp [hk]
theorem drewN_add20 (w : World) (a b : Nat) : (w.drewN a).drewN b = w.drewN (a + b) := by
  unfold World.drewN
  simp [Nat.add_assoc]
set_option maxHeartbeats 1000000 in
theorem idxf_any20 (w : World) (A : Option Addr) (n c : Nat) (X : List Pk20) (hn : n = X.length) (f : Nat) (lb : Array Value) (pr : Pk20 → Bool) (hr : w.ownsRow 0 60 1 (.slice A X.length c) X.length (X.map Pk20.p)) (hfew : X.length ≤ 1000000) (hG : Goes20 f lb pr X (fun W => ∃ q, W = w.drewN q)) :
    Calls Try.prog 38 #[.slice A n c, .func (.func f) #[] lb] w fun e w' => (∃ q, w' = w.drewN q) ∧
      ((e = .returned (.int .i64 (-1)) ∧ ∀ x ∈ X, pr x = false) ∨ ∃ k, ∃ h : k < X.length, e = .returned (.int .i64 (k : Nat)) ∧ pr (X[k]'h) = true ∧ ∀ j (hj : j < k), pr (X[j]'(by omega)) = false) := by
  have eg := hG.eg
  have HG := Lib.hid hG.is
  have HR := Lib.hid (fun k hk => own_cell20 hr (k := k) hk)
  rw [← hn] at hfew
  have HN := Lib.hid hn
  clear hG hr hn
  go_enter Try.func38, Try.ntmps38
  go_wp2
  go_loopw [8] (fun vi wr => ∃ k q : Nat, k ≤ n ∧ vi = .int .i64 k ∧ wr = w.drewN q ∧ Hid (∀ j (hj : j < k) (h2 : j < X.length), pr (X[j]'h2) = false)) (fun i _ => n - (intOf i).toNat)
  case atStart => exact ⟨0, 0, by omega, rfl, rfl, Lib.hid (fun j hj => by omega)⟩
  case round =>
    obtain ⟨k, q, hk, rfl, hwr, HP⟩ := hrel
    by_cases hlt : k < n
    · have hlx : k < X.length := by rw [← HN.out]; exact hlt
      obtain ⟨b, hA, hb, hc⟩ := HR.out k hlx
      have hc2 : wr.cell? ⟨b, k, none⟩ = some (X[k]'hlx).p := by rw [hwr]; exact hc
      have hcall := HG.out wr ⟨q, hwr⟩ _ (List.getElem_mem hlx)
      have hki : (k : Int) < (n : Int) := by omega
      subst hA
      obtain ⟨y, hy⟩ : ∃ y, y = (X[k]'hlx).q := ⟨_, rfl⟩
      simp only [Pk20.p, ← hy] at hc2 hcall
      obtain ⟨t, ht⟩ : ∃ t, t = pr (X[k]'hlx) := ⟨_, rfl⟩
      rw [← ht] at hcall
      have HT := Lib.hid ht
      have HW := Lib.hid hwr
      clear hy hwr ht hc
      cases t with
      | true =>
        go_wp2_with (go_at_fn f; refine hcall.mono ?_; rintro e w' ⟨rfl, qq, rfl⟩)
        go_ret
        exact ⟨⟨q + qq, by rw [HW.out, drewN_add20]⟩, .inr ⟨k, hlx, rfl, HT.out.symm, fun j hj => HP.out j hj _⟩⟩
      | false =>
        go_wp2_with (go_at_fn f; refine hcall.mono ?_; rintro e w' ⟨rfl, qq, rfl⟩)
        go_roundw
        case rel => exact ⟨k + 1, q + qq, by omega, by go_num, by rw [HW.out, drewN_add20], Lib.hid (fun j hj h2 => by
          rcases Nat.lt_or_ge j k with h3 | h3
          · exact HP.out j h3 h2
          · obtain rfl : j = k := by omega
            exact HT.out.symm)⟩
        case measure => simp [intOf]; omega
    · have hki : ¬ (k : Int) < (n : Int) := by omega
      have HW := Lib.hid hwr
      clear hwr
      go_wp2
      go_ret
      exact ⟨⟨q, HW.out⟩, .inl ⟨rfl, fun x hx => by
        obtain ⟨j, hj, rfl⟩ := List.getElem_of_mem hx
        exact HP.out j (by have := HN.out; omega) hj⟩⟩

/-- How far a filter in place has come: of the first j, those that stay (i of them) stand at the row's head. -/
structure Del20 (w : World) (b c : Nat) (X : List Pk20) (pr : Pk20 → Bool) (i j : Nat) (wr : World) : Prop where
  only : Only b w wr
  C : ∃ C : List Value, BlkV wr b 60 C ∧ C.length = c ∧ C.take i = ((X.take j).filter fun x => !pr x).map Pk20.p ∧ ∀ t (ht : t < X.length), j ≤ t → C[t]? = some (X[t]'ht).p
  len : ((X.take j).filter fun x => !pr x).length = i
  lt : i < j
theorem take_snocF20 {α : Type} {X : List α} {f : α → Bool} {j : Nat} (h : j < X.length) : (X.take (j + 1)).filter f = (X.take j).filter f ++ (if f X[j] then [X[j]] else []) := by
  rw [List.take_add_one, List.getElem?_eq_getElem h, List.filter_append]
  congr 1
  by_cases hf : f X[j] <;> simp [hf]
section
variable {w wr : World} {b c i j : Nat} {X : List Pk20} {pr : Pk20 → Bool}
theorem Del20.skip (h : Del20 w b c X pr i j wr) (q : Nat) (hj : j < X.length) (hp : pr (X[j]'hj) = true) : Del20 w b c X pr i (j + 1) (wr.drewN q) := by
  obtain ⟨C, h1, h2, h3, h4⟩ := h.C
  have e : (X.take (j + 1)).filter (fun x => !pr x) = (X.take j).filter fun x => !pr x := by rw [take_snocF20 hj]; simp [hp]
  exact ⟨h.only.trans ⟨rfl, rfl, rfl, rfl, fun _ _ => rfl⟩, ⟨C, h1, h2, by rw [e]; exact h3, fun t ht ht2 => h4 t ht (by omega)⟩, by rw [e]; exact h.len, by have := h.lt; omega⟩
theorem Del20.keep (h : Del20 w b c X pr i j wr) (q : Nat) (hj : j < X.length) (hp : pr (X[j]'hj) = false) (hc : X.length ≤ c) : Del20 w b c X pr (i + 1) (j + 1) ((wr.drewN q).setCell ⟨b, i, none⟩ (X[j]'hj).p) := by
  obtain ⟨C, h1, h2, h3, h4⟩ := h.C
  have hlt := h.lt
  have e : (X.take (j + 1)).filter (fun x => !pr x) = ((X.take j).filter fun x => !pr x) ++ [X[j]'hj] := by rw [take_snocF20 hj]; simp [hp]
  refine ⟨(show Only b w (wr.drewN q) from h.only.trans ⟨rfl, rfl, rfl, rfl, fun _ _ => rfl⟩).trans (Only.set (wr.drewN q) b i _), ⟨C.set i (X[j]'hj).p, BlkV.set_ (w := wr.drewN q) h1 i _, by simpa using h2, ?_, fun t ht ht2 => ?_⟩, by rw [e]; simp [h.len], by omega⟩
  · rw [e, List.map_append, ← h3, List.take_succ_eq_append_getElem (by simp; omega), List.take_set, List.set_eq_of_length_le (by rw [List.length_take]; omega)]
    simp
  · rw [List.getElem?_set_ne (by omega)]
    exact h4 t ht (by omega)
theorem Del20.at_ (h : Del20 w b c X pr i j wr) (hj : j < X.length) (hc : X.length ≤ c) : wr.cell? ⟨b, j, none⟩ = some (X[j]'hj).p ∧ (∃ v, wr.cell? ⟨b, i, none⟩ = some v) ∧ wr.frozen? ⟨b, i, none⟩ = false ∧ b < wr.heap.size := by
  obtain ⟨C, h1, h2, h3, h4⟩ := h.C
  have hlt := h.lt
  exact ⟨(h1.cell j).trans (h4 j hj (Nat.le_refl _)), ⟨C[i]'(by omega), (h1.cell i).trans (List.getElem?_eq_getElem _)⟩, h1.frozen i, h1.lt⟩
theorem Del20.done (h : Del20 w b c X pr i X.length wr) (hc : X.length ≤ c) (hm : c ≤ maxLen) : (wr.setCells b i (List.replicate (X.length - i) (.pointer none))).ownsRow 0 60 1 (.slice (some ⟨b, 0, none⟩) i c) i ((X.filter fun x => !pr x).map Pk20.p) ∧ Only b w (wr.setCells b i (List.replicate (X.length - i) (.pointer none))) := by
  obtain ⟨C, h1, h2, h3, h4⟩ := h.C
  have hlt := h.lt
  have hlen := h.len
  rw [List.take_length] at h3 hlen
  obtain ⟨k1, k2⟩ := set_cells b (List.replicate (X.length - i) (.pointer none)) i wr C h1 (by simp; omega)
  refine ⟨⟨by simp [hlen], .inr ⟨b, c, (splice C i (List.replicate (X.length - i) (.pointer none))).toArray, rfl, Nat.zero_le _, k1, by omega, hm, ?_, ?_⟩⟩, h.only.trans k2⟩
  · simp [splice, h2]; omega
  · rw [← h3, Nat.mul_one]
    simp only [splice]
    rw [List.take_append_of_le_length (by simp; omega), List.take_take, Nat.min_self]
theorem Del20.clear_ (h : Del20 w b c X pr i j wr) (hc : X.length ≤ c) (hi : i < X.length) (ty : TypeId) (c2 : Nat) : (Builtin.clear_ #[54] ty #[.slice (some ⟨b, i, none⟩) (X.length - i) c2]).run Try.prog wr = .ok (.tuple #[]) (wr.setCells b i (List.replicate (X.length - i) (.pointer none))) := by
  obtain ⟨C, h1, h2, h3, h4⟩ := h.C
  refine Lib.run_clear_slice wr _ 60 ty _ Try.underlying54 (fun w => by kernel_rfl) rfl rfl b i _ _ (by omega) (fun t ht => ?_) (fun t _ => h1.frozen _)
  rw [h1.cell, List.getElem?_eq_getElem (by omega)]
  rfl
end
/-- What a filter in place leaves. -/
def Deld20 (w : World) (A : Option Addr) (c : Nat) (X : List Pk20) (pr : Pk20 → Bool) (e : Ending) (w' : World) : Prop :=
  ∃ m, m = (X.filter fun x => !pr x).length ∧ e = .returned (.slice A m c) ∧ Hid (w'.ownsRow 0 60 1 (.slice A m c) m ((X.filter fun x => !pr x).map Pk20.p) ∧ Fr (fun k => (Value.slice A X.length c).ownBlock = some k) w w')
set_option maxHeartbeats 1000000 in
theorem delf_any20 (w : World) (A : Option Addr) (c : Nat) (X : List Pk20) (f : Nat) (lb : Array Value) (pr : Pk20 → Bool) (hr : w.ownsRow 0 60 1 (.slice A X.length c) X.length (X.map Pk20.p)) (hfew : X.length ≤ 1000000) (hG : Goes20 f lb pr X (fun W => Fr (fun k => (Value.slice A X.length c).ownBlock = some k) w W)) :
    Calls Try.prog 33 #[.slice A X.length c, .func (.func f) #[] lb] w (Deld20 w A c X pr) := by
  have eg := hG.eg
  have frd : ∀ q, Fr (fun k => (Value.slice A X.length c).ownBlock = some k) w (w.drewN q) := fun q => Fr.of_below ⟨rfl, rfl, rfl, Nat.le_refl _, fun _ _ => rfl⟩
  have HI := Lib.hid (idxf_any20 w A X.length c X rfl f lb pr hr hfew ⟨hG.eg, fun W ⟨q, hq⟩ => hG.is W (by rw [hq]; exact frd q)⟩)
  have HG := Lib.hid hG.is
  have HR := Lib.hid hr
  have HF := Lib.hid frd
  obtain ⟨n, hn⟩ : ∃ n, n = X.length := ⟨_, rfl⟩
  rw [← hn] at hfew ⊢
  have HN := Lib.hid hn
  by_cases hall : ∀ x ∈ X, pr x = false
  · have HC : Hid (Calls Try.prog 38 #[.slice A n c, .func (.func f) #[] lb] w fun e w' => e = .returned (.int .i64 (-1)) ∧ ∃ q, w' = w.drewN q) := Lib.hid (by
      rw [hn]
      refine HI.out.mono fun e w' h => ⟨?_, h.1⟩
      rcases h.2 with h1 | ⟨k, hk, _, h2, _⟩
      · exact h1.1
      · rw [hall _ (List.getElem_mem hk)] at h2; cases h2)
    have HA := Lib.hid hall
    clear hG hr hn hall HI frd
    go_enter Try.func33, Try.ntmps33
    go_wp2_with (go_at_call 38; ((with_reducible refine HC.out.mono ?_); rintro e w' ⟨rfl, q, rfl⟩))
    go_ret
    have e : (X.filter fun x => !pr x) = X := List.filter_eq_self.2 (fun x hx => by rw [HA.out x hx]; rfl)
    refine ⟨n, by rw [e]; exact HN.out, rfl, Lib.hid ⟨by rw [e, HN.out]; exact own_at_same HR.out (fun _ _ => rfl), HF.out q⟩⟩
  · obtain ⟨b, off, cur, hA, hcur, hnc, hcm, hcs, htk⟩ : ∃ b, ∃ off : Nat, ∃ cur : Array Value, A = some ⟨b, 0, none⟩ ∧ w.heap[b]? = some (.cells cur 60 (0, 0)) ∧ X.length ≤ c ∧ c ≤ maxLen ∧ cur.size = c ∧ cur.toList.take X.length = X.map Pk20.p := by
      rcases hr.2 with ⟨_, h2⟩ | ⟨g, cap, cur, hv, _, h3, h4, h5, h6, h7⟩
      · exfalso
        refine hall fun x hx => ?_
        rw [List.length_eq_zero_iff.1 h2] at hx
        cases hx
      · injection hv with e1 e2 e3
        subst e3
        exact ⟨g, 0, cur, e1, h3, h4, h5, by omega, by rw [Nat.mul_one] at h7; exact h7⟩
    subst hA
    have hB : BlkV w b 60 cur.toList := hcur
    have HC : Hid (Calls Try.prog 38 #[.slice (some ⟨b, 0, none⟩) n c, .func (.func f) #[] lb] w fun e w' => ∃ k, e = .returned (.int .i64 (k : Nat)) ∧ k < n ∧ Hid (Del20 w b c X pr k (k + 1) w')) := Lib.hid (by
      rw [hn]
      refine HI.out.mono ?_
      rintro e w' ⟨⟨q, rfl⟩, h1 | ⟨k, hk, h1, h2, h3⟩⟩
      · exact absurd h1.2 hall
      · have hfl : (X.take k).filter (fun x => !pr x) = X.take k := List.filter_eq_self.2 (fun x hx => by
          obtain ⟨j, hj, rfl⟩ := List.getElem_of_mem hx
          rw [List.getElem_take, h3 j (by simp at hj; omega)]; rfl)
        have e : (X.take (k + 1)).filter (fun x => !pr x) = X.take k := by rw [take_snocF20 hk, hfl]; simp [h2]
        refine ⟨k, h1, hk, Lib.hid ⟨⟨rfl, rfl, rfl, rfl, fun _ _ => rfl⟩, ⟨cur.toList, hB, by simpa using hcs, ?_, fun t ht _ => ?_⟩, by rw [e, List.length_take]; omega, by omega⟩⟩
        · rw [e, List.map_take, ← htk, List.take_take, Nat.min_eq_left (by omega)]
        · have : (cur.toList.take X.length)[t]? = (X.map Pk20.p)[t]? := by rw [htk]
          rw [List.getElem?_take_of_lt ht] at this
          rw [this]; simp [ht])
    have hnc2 : n ≤ c := by omega
    have HM := Lib.hid hcm
    have hc63 : c ≤ 9223372036854775807 := by unfold maxLen at hcm; omega
    have hfr : ∀ wr, Only b w wr → Fr (fun k => (Value.slice (some ⟨b, 0, none⟩) n c).ownBlock = some k) w wr := fun wr ho => Fr.of_only ho rfl
    have HFR := Lib.hid hfr
    have HG2 : Hid (∀ W, Only b w W → ∀ x ∈ X, Calls Try.prog f (#[x.p] ++ lb) W fun e w' => e = .returned (.bool (pr x)) ∧ ∃ n, w' = W.drewN n) := Lib.hid (fun W ho x hx => HG.out W (by rw [← hn]; exact hfr W ho) x hx)
    clear hG hr hn hall HI frd hB htk hcs hcm hcur hfr HG HR HF cur
    go_enter Try.func33, Try.ntmps33
    go_wp2_with (go_at_call 38; ((with_reducible refine HC.out.mono ?_); rintro e w' ⟨k0, rfl, hk0, HD⟩; have hk1 : ((k0 : Int) == -1) = false := beq_eq_false_iff_ne.2 (by omega)))
    go_loopw [5, 6, 7] (fun vi vj vv wr => ∃ i j : Nat, vi = .int .i64 i ∧ vj = .int .i64 j ∧ i < j ∧ j ≤ n ∧ Hid (Del20 w b c X pr i j wr)) (fun _ j _ _ => n - (intOf j).toNat)
    case atStart => exact ⟨k0, k0 + 1, rfl, by go_num, by omega, by omega, HD⟩
    case round =>
      obtain ⟨i, j, rfl, rfl, hij, hjn, HD2⟩ := hrel
      clear HD HC hk0 hk1
      by_cases hlt : j < n
      · have hlx : j < X.length := by rw [← HN.out]; exact hlt
        have hcx : X.length ≤ c := by rw [← HN.out]; exact hnc2
        obtain ⟨c1, ⟨v2, c2⟩, f2, hbw⟩ := HD2.out.at_ hlx hcx
        have hcall := HG2.out wr HD2.out.only _ (List.getElem_mem hlx)
        have HKP := Lib.hid (fun q hp => HD2.out.keep q hlx hp hcx)
        have HSK := Lib.hid (fun q hp => HD2.out.skip q hlx hp)
        have hji : (j : Int) < (n : Int) := by omega
        have hi2 : (i : Int) < (n : Int) := by omega
        obtain ⟨y, hy⟩ : ∃ y, y = (X[j]'hlx).q := ⟨_, rfl⟩
        simp only [Pk20.p, ← hy] at c1 hcall HKP
        obtain ⟨t, ht⟩ : ∃ t, t = pr (X[j]'hlx) := ⟨_, rfl⟩
        rw [← ht] at hcall HKP HSK
        clear hy ht hcx hlx HD2
        cases t with
        | true =>
          have HS := Lib.hid (fun q => HSK.out q rfl)
          clear HKP HSK
          go_wp2_with (go_at_fn f; refine hcall.mono ?_; rintro e w' ⟨rfl, qq, rfl⟩)
          go_roundw
          case rel => exact ⟨i, j + 1, rfl, by go_num, by omega, by omega, Lib.hid (HS.out qq)⟩
          case measure => simp [intOf]; omega
        | false =>
          have HK := Lib.hid (fun q => HKP.out q rfl)
          clear HKP HSK
          go_wp2_with (go_at_fn f; refine hcall.mono ?_; rintro e w' ⟨rfl, qq, rfl⟩)
          go_roundw
          case rel => exact ⟨i + 1, j + 1, by go_num, by go_num, by omega, by omega, Lib.hid (HK.out qq)⟩
          case measure => simp [intOf]; omega
      · obtain rfl : j = n := by omega
        have hji : ¬ (j : Int) < (j : Int) := by omega
        have hcx : X.length ≤ c := by rw [← HN.out]; exact hnc2
        have hcl := fun ty c2 => HD2.out.clear_ hcx (by rw [← HN.out]; exact hij) ty c2
        have HDD : Hid (Del20 w b c X pr i X.length wr) := Lib.hid (by rw [← HN.out]; exact HD2.out)
        have HDN := Lib.hid (HDD.out.done hcx HM.out)
        have hl := HDD.out.len
        rw [List.take_length] at hl
        have HL := Lib.hid hl.symm
        rw [← HN.out] at hcl HDN
        have hne : ¬ c = i := by omega
        have h1 : (i : Int) ≤ (j : Int) := by omega
        have h2 : (j : Int) ≤ (c : Int) := by omega
        have h3 : (i : Int) ≤ (c : Int) := by omega
        clear HD2 hcx HDD hl
        go_wp2
        go_ret
        exact ⟨i, HL.out, rfl, Lib.hid ⟨HDN.out.1, HFR.out _ HDN.out.2⟩⟩
end Go.Proofs.Ytkmacpmdgbhhkaa
