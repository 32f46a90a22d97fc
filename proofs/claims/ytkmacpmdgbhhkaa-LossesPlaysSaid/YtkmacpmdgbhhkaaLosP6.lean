/- Contracts of package losses: Came. No statement is proved here. -/
import Derived.Test.YtkmacpmdgbhhkaaLosP5
namespace Go.Proofs.Ytkmacpmdgbhhkaa
open Go.RowKit
set_option linter.unusedVariables false

theorem filter_drop20 (i : Int) : ∀ (L : List Mis), (L.Pairwise fun a b => a.i < b.i) → (L.filter fun x => !decide (x.i = i)) = dropM L i
  | [], _ => rfl
  | x :: r, hp => by
    obtain ⟨h1, h2⟩ := List.pairwise_cons.1 hp
    have ih := filter_drop20 i r h2
    unfold dropM at ih ⊢
    by_cases h : x.i = i
    · rw [List.eraseP_cons_of_pos (by simpa using h), List.filter_cons_of_neg (by simp [h])]
      exact List.filter_eq_self.2 fun y hy => by have := h1 y hy; simp; omega
    · rw [List.eraseP_cons_of_neg (by simpa using h), List.filter_cons_of_pos (by simp [h]), ih]
section
variable {w w2 : World} {g : Nat} {s : Kpr} {A : Option Addr} {c : Nat} {X : List Pk20} {F : Nat → Prop}
theorem KAt.stp (h : KAt w g s A c X F) (hb : Below w.heap.size w w2) : StpK T20 (.pointer (some ⟨g, 0, none⟩)) s F w w2 := ⟨F, (h.below hb).t, Fr.of_below hb, fun k hk => .inl hk⟩
end
set_option maxRecDepth 100000 in
set_option maxHeartbeats 2000000 in
theorem came_any20 (w : World) (g : Nat) (s : Kpr) (A : Option Addr) (c : Nat) (X : List Pk20) (F : Nat → Prop) (i tk : Int) (h : KAt w g s A c X F) (ok : KOk s) (h1 : s.h ≤ 4611686018427387904) (hi : -4611686018427387904 ≤ i ∧ i ≤ 4611686018427387904) (ht : -4611686018427387904 ≤ tk ∧ tk ≤ 4611686018427387904) :
    Calls Try.prog 13 #[.pointer (some ⟨g, 0, none⟩), .int .i64 i, .int .i64 tk] w fun e w' => e = .returned (.tuple #[]) ∧ Hid (StpK T20 (.pointer (some ⟨g, 0, none⟩)) (cameK s i tk) F w w') := by
  have hfew := lenP20 h ok
  have hlow := h.low
  obtain ⟨W, hW⟩ : ∃ W, W = w.alloc (.cells #[.int .i64 i] 2) := ⟨_, rfl⟩
  have hb : Below w.heap.size w W := by rw [hW]; exact (Below.refl _ _).alloc (Nat.le_refl _) _
  have hI : BlkV W w.heap.size 2 [.int .i64 i] := by rw [hW]; exact BlkV.new_at w _ _ [.int .i64 i] _ rfl rfl
  have hcI : W.cell? ⟨w.heap.size, 0, none⟩ = some (.int .i64 i) := (hI.cell 0).trans rfl
  have hH := h.below hb
  have hfh := ok.h
  have hbq : ∀ q, Below w.heap.size w (W.drewN q) := fun q => hb.trans ⟨rfl, rfl, rfl, Nat.le_refl _, fun _ _ => rfl⟩
  have HH := Lib.hid hH
  have HB := Lib.hid hb
  have HI := Lib.hid hI
  have HO := Lib.hid ok
  have HF := Lib.hid hfew
  have HL := Lib.hid hlow
  have hg := hH.k.lt
  have HQ : ∀ q, KAt (W.drewN q) g s A c X F := fun q => hH.below ⟨rfl, rfl, rfl, Nat.le_refl _, fun _ _ => rfl⟩
  have HQ := Lib.hid HQ
  by_cases hneg : i < 0
  · have HC : Hid (cameK s i tk = s) := Lib.hid (by unfold cameK; rw [if_pos (.inl hneg)])
    have HS := Lib.hid (h.stp hb)
    clear h ok hlow hH hb hI hbq
    go_enter Try.func13, Try.ntmps13
    go_upto_region 1 with (fail)
    rw [← hW]
    clear hW
    go_wp2
    go_end0
    exact ⟨rfl, by rw [HC.out]; exact HS⟩
  · by_cases hnew : s.h < 0
    · have c1 : W.cell? ⟨g, 1, none⟩ = some (.bool false) := (hH.k.cell 1).trans (by simp; omega)
      have c2 : W.cell? ⟨g, 2, none⟩ = some (.int .i64 0) := (hH.k.cell 2).trans (by simp [hiP20]; omega)
      have f1 : W.frozen? ⟨g, 1, none⟩ = false := hH.k.frozen 1
      have f2 : W.frozen? ⟨g, 2, none⟩ = false := hH.k.frozen 2
      have HC : Hid (cameK s i tk = { s with h := i }) := Lib.hid (by unfold cameK; rw [if_neg (by omega), if_pos hnew])
      have HK : Hid (∀ W3 : World, Only g W W3 → BlkV W3 g 56 [.int .i64 s.p, .bool true, .int .i64 i, .slice A X.length c] → StpK T20 (.pointer (some ⟨g, 0, none⟩)) { s with h := i } F w W3) := Lib.hid (fun W3 ho hk => by
        have k1 := hH.with (s' := { s with h := i }) ho (by
          have e1 : decide (0 ≤ i) = true := by simp; omega
          have e2 : hiP20 i = i := by unfold hiP20; rw [if_pos (by omega)]
          simp only [e1, e2]; exact hk) rfl
        exact ⟨F, k1.t, (Fr.of_below hb).trans (Fr.of_only (F := fun k => k = g) ho rfl) (fun j hj => .inl ((h.own j).2 (.inl hj))), fun k hk => .inl hk⟩)
      have hgw : ¬ w.heap.size = g := fun e => by have := h.k.lt; omega
      clear h ok hlow hH hb hI hbq
      go_enter Try.func13, Try.ntmps13
      go_upto_region 1 with (fail)
      rw [← hW]
      clear hW
      go_wp2
      go_region
      all_goals (
        go_wp2
        go_end0
        refine ⟨rfl, ?_⟩
        rw [HC.out]
        first
          | exact Lib.hid (HK.out _ ((Only.set W g 1 (.bool true)).trans (Only.set _ g 2 (.int .i64 i))).drew (((HH.out.k.set_ 1 (.bool true)).set_ 2 (.int .i64 i)).drew))
          | exact Lib.hid (HK.out _ ((Only.set W g 2 (.int .i64 i)).trans (Only.set _ g 1 (.bool true))).drew (((HH.out.k.set_ 2 (.int .i64 i)).set_ 1 (.bool true)).drew)))
    · obtain ⟨hh, hhe⟩ : ∃ hh, hh = s.h := ⟨_, rfl⟩
      have c1 : W.cell? ⟨g, 1, none⟩ = some (.bool true) := (hH.k.cell 1).trans (by simp; omega)
      have c2 : W.cell? ⟨g, 2, none⟩ = some (.int .i64 hh) := (hH.k.cell 2).trans (by rw [hhe]; simp [hiP20]; omega)
      have wz : IntKind.i64.wrap (i - hh) = i - hh := by rw [IntKind.wrap_i64]; omega
      by_cases hle : i ≤ s.h
      · have HC : Hid (cameK s i tk = { s with M := dropM s.M i }) := Lib.hid (by unfold cameK; rw [if_neg (by omega), if_neg hnew, if_neg (by omega)])
        have HFD : Hid ((X.filter fun x => !decide (x.i = i)).map Pk20.mis = dropM s.M i) := Lib.hid (by
          rw [← filter_drop20 i s.M ok.ris, ← h.eq]
          exact filter_map20 X (fun x => !decide (x.i = i)))
        have hle2 : i ≤ hh := by omega
        have HK : Hid (∀ (q : Nat) (W3 : World) (s' : Kpr) (Y : List Pk20) (F2 : Nat → Prop), KAt W3 g s' A c Y F2 → Fr F (W.drewN q) W3 → (∀ k, F2 k → F k) → StpK T20 (.pointer (some ⟨g, 0, none⟩)) s' F w W3) := Lib.hid (fun q W3 s' Y F2 k1 k2 k3 => ⟨F2, k1.t, (Fr.of_below (F := F) (hbq q)).trans k2 (fun j hj => .inl hj), fun k hk => .inl (k3 k hk)⟩)
        have HI2 : Hid (∀ q, BlkV (W.drewN q) w.heap.size 2 [.int .i64 i]) := Lib.hid (fun q => hI)
        clear h ok hlow hH hb hI hbq hhe hle
        go_enter Try.func13, Try.ntmps13
        go_upto_region 1 with (fail)
        rw [← hW]
        clear hW
        go_wp2
        go_quiet (fail)
        go_wp2_with (go_at_call 22; ((refine (forget_any20 _ g s A c X F _ _ _ (HQ.out nq) (by have := HF.out; omega) (goes20_is (HQ.out nq) w.heap.size i (HI2.out nq))).mono ?_); rintro e w5 ⟨rfl, HE⟩))
        go_end0
        obtain ⟨F2, k1, k2, k3⟩ := HE.out
        refine ⟨rfl, Lib.hid ?_⟩
        rw [HC.out]
        rw [HFD.out] at k1
        exact HK.out nq _ _ _ F2 k1 k2 k3
      · by_cases hfar : i - s.h ≤ 1099511627776
        · have HC : Hid (cameK s i tk = { s with h := i, M := lastM (s.M ++ fillM (fromM s.h i) (i - fromM s.h i).toNat tk) }) := Lib.hid (by unfold cameK; rw [if_neg (by omega), if_neg hnew, if_pos (by omega)])
          have hle2 : ¬ i ≤ hh := by omega
          have hfar2 : i - hh ≤ 1099511627776 := by omega
          have HMS := Lib.hid (fun q => miss_any20 (W.drewN q) g s A c X F i tk (hH.below ⟨rfl, rfl, rfl, Nat.le_refl _, fun _ _ => rfl⟩) ok (by omega) (by omega) (by omega) ht)
          have HK : Hid (∀ (q : Nat) (W3 : World) (M : List Mis) (A2 : Option Addr) (c2 : Nat) (Y : List Pk20) (F2 : Nat → Prop), KAt W3 g { s with M := M } A2 c2 Y F2 → Fr F (W.drewN q) W3 → (∀ k, F2 k → F k ∨ (W.drewN q).heap.size ≤ k) → (W3.cell? ⟨w.heap.size, 0, none⟩ = some (.int .i64 i) ∧ (∃ v, W3.cell? ⟨g, 2, none⟩ = some v) ∧ W3.frozen? ⟨g, 2, none⟩ = false ∧ g < W3.heap.size) ∧ StpK T20 (.pointer (some ⟨g, 0, none⟩)) { s with h := i, M := M } F w (W3.setCell ⟨g, 2, none⟩ (.int .i64 i))) := Lib.hid (fun q W3 M A2 c2 Y F2 k1 k2 k3 => by
            have hwl : w.heap.size < (W.drewN q).heap.size := hI.lt
            have hIw : BlkV W3 w.heap.size 2 [.int .i64 i] := BlkV.fr (w := W.drewN q) hI k2 (fun hf => by have := h.low _ hf; omega)
            have ho := Only.set W3 g 2 (.int .i64 i)
            have k4 := k1.with (s' := { s with h := i, M := M }) ho (by
              have e0 : decide (0 ≤ s.h) = true := by simp; omega
              have e1 : decide (0 ≤ i) = true := by simp; omega
              have e2 : hiP20 i = i := by unfold hiP20; rw [if_pos (by omega)]
              have := k1.k.set_ 2 (.int .i64 i)
              simp only [e0] at this
              simp only [e1, e2]; exact this) rfl
            refine ⟨⟨(hIw.cell 0).trans rfl, ⟨_, (k1.k.cell 2).trans rfl⟩, k1.k.frozen 2, k1.k.lt⟩, F2, k4.t, ?_, fun k hk => (k3 k hk).imp id (fun h2 => Nat.le_trans (Nat.le_of_lt hwl) h2)⟩
            exact ((Fr.of_below (F := F) (hbq q)).trans k2 (fun j hj => .inl hj)).trans (Fr.of_only (F := fun k => k = g) ho rfl) (fun j hj => .inl ((h.own j).2 (.inl hj))))
          clear h ok hlow hH hb hI hbq hhe hle hfar
          go_enter Try.func13, Try.ntmps13
          go_upto_region 1 with (fail)
          rw [← hW]
          clear hW
          go_wp2
          go_quiet (fail)
          obtain ⟨n1, hn1⟩ : ∃ n1, n1 = nq := ⟨_, rfl⟩
          rw [← hn1]
          clear hn1
          go_wp2
          go_quiet (fail)
          rw [drewN_add20]
          go_wp2_with (go_at_call 27; ((with_reducible refine (HMS.out (n1 + nq)).mono ?_); rintro e w5 ⟨rfl, HE⟩; obtain ⟨A2, c2, Y, F2, k1, k2, k3⟩ := HE.out; have HZ := Lib.hid (HK.out (n1 + nq) w5 _ A2 c2 Y F2 k1 k2 k3); clear k1 k2 k3; obtain ⟨⟨z1, ⟨zv, z2⟩, z3, z4⟩, z5⟩ := HZ.out; have Z5 := Lib.hid z5; clear z5))
          go_end0
          exact ⟨rfl, by rw [HC.out]; exact Z5⟩
        · have HC : Hid (cameK s i tk = s) := Lib.hid (by unfold cameK; rw [if_pos (.inr (by omega))])
          have hle2 : ¬ i ≤ hh := by omega
          have hfar2 : ¬ i - hh ≤ 1099511627776 := by omega
          have HS : Hid (∀ q q2, StpK T20 (.pointer (some ⟨g, 0, none⟩)) s F w ((W.drewN q).drewN q2)) := Lib.hid (fun q q2 => by rw [drewN_add20]; exact h.stp (hbq _))
          clear h ok hlow hH hb hI hbq hhe hle hfar
          go_enter Try.func13, Try.ntmps13
          go_upto_region 1 with (fail)
          rw [← hW]
          clear hW
          go_wp2
          go_quiet (fail)
          go_wp2
          go_quiet (fail)
          go_wp2
          go_end0
          exact ⟨rfl, by rw [HC.out]; exact Lib.hid (HS.out _ _)⟩
end Go.Proofs.Ytkmacpmdgbhhkaa
