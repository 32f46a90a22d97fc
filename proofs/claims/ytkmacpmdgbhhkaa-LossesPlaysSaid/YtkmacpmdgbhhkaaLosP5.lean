/- Contracts of package losses: miss, Came. No statement is proved here. -/
import Derived.Test.YtkmacpmdgbhhkaaLosP4
namespace Go.Proofs.Ytkmacpmdgbhhkaa
open Go.RowKit
set_option linter.unusedVariables false

theorem pairw_fill20 {s : Kpr} (ok : KOk s) {a tk : Int} {k : Nat} (ha : s.h < a) : (s.M ++ fillM a k tk).Pairwise fun x y => x.i < y.i :=
  List.pairwise_append.2 ⟨ok.ris, fillM_ris _ _ _, fun x hx y hy => by have := ok.bel x hx; have := fillM_mem hy; omega⟩
section
variable {w : World} {g : Nat} {s : Kpr} {A : Option Addr} {c : Nat} {X : List Pk20} {F : Nat → Prop}
theorem goes20_below (h : KAt w g s A c X F) (b : Nat) (z : Int) (hb : BlkV w b 2 [.int .i64 z]) : Goes20 34 #[.pointer (some ⟨b, 0, none⟩)] (fun x => decide (x.i < z)) X (fun W => Fr (fun k => (Value.slice A X.length c).ownBlock = some k) w W) :=
  ⟨enters_of Try.func34 (by kernel_rfl) rfl, fun W hW x hx => goes_below20 W x b z ((h.pk x hx).fr hW (own_ne h.row (h.pk x hx) (by decide))) (((hb.fr hW (own_ne h.row hb (by decide))).cell 0).trans rfl)⟩
theorem goes20_is (h : KAt w g s A c X F) (b : Nat) (z : Int) (hb : BlkV w b 2 [.int .i64 z]) : Goes20 26 #[.pointer (some ⟨b, 0, none⟩)] (fun x => decide (x.i = z)) X (fun W => Fr (fun k => (Value.slice A X.length c).ownBlock = some k) w W) :=
  ⟨enters_of Try.func26 (by kernel_rfl) rfl, fun W hW x hx => goes_is20 W x b z ((h.pk x hx).fr hW (own_ne h.row (h.pk x hx) (by decide))) (((hb.fr hW (own_ne h.row hb (by decide))).cell 0).trans rfl)⟩
theorem goes20_thrice (h : KAt w g s A c X F) : Goes20 23 #[] (fun x => decide (3 ≤ x.t)) X (fun W => Fr (fun k => (Value.slice A X.length c).ownBlock = some k) w W) :=
  ⟨enters_of Try.func23 (by kernel_rfl) rfl, fun W hW x hx => goes_thrice20 W x ((h.pk x hx).fr hW (own_ne h.row (h.pk x hx) (by decide)))⟩
end
theorem last_drop20 {X : List Pk20} {L : List Mis} (h : X.map Pk20.mis = L) {o : Nat} (ho : X.length = o + 32) : (X.drop o).map Pk20.mis = lastM L := by
  unfold lastM
  rw [List.map_drop, h, ← h, List.length_map, ho]
  rfl
theorem last_all20 {X : List Pk20} {L : List Mis} (h : X.map Pk20.mis = L) (hn : X.length ≤ 32) : L = lastM L := by
  unfold lastM
  rw [← h, List.length_map, show X.length - 32 = 0 by omega]
  rfl
/-- What a gap leaves. -/
def Missd20 (w : World) (g : Nat) (s : Kpr) (M : List Mis) (F : Nat → Prop) (e : Ending) (w' : World) : Prop :=
  e = .returned (.tuple #[]) ∧ Hid (∃ A2 c2 X2 F2, KAt w' g { s with M := M } A2 c2 X2 F2 ∧ Fr F w w' ∧ ∀ k, F2 k → F k ∨ w.heap.size ≤ k)
set_option maxRecDepth 100000 in
set_option maxHeartbeats 2000000 in
theorem miss_any20 (w : World) (g : Nat) (s : Kpr) (A : Option Addr) (c : Nat) (X : List Pk20) (F : Nat → Prop) (i tk : Int) (h : KAt w g s A c X F) (ok : KOk s) (h0 : 0 ≤ s.h) (hi : s.h < i) (hib : i ≤ 4611686018427387904) (ht : -4611686018427387904 ≤ tk ∧ tk ≤ 4611686018427387904) :
    Calls Try.prog 27 #[.pointer (some ⟨g, 0, none⟩), .int .i64 i, .int .i64 tk] w (Missd20 w g s (lastM (s.M ++ fillM (fromM s.h i) (i - fromM s.h i).toNat tk)) F) := by
  obtain ⟨a, ha⟩ : ∃ a, a = if s.h + 1 < i - 32 then i - 32 else s.h + 1 := ⟨_, rfl⟩
  rw [lastM_gap s.M s.h i tk hi a ha]
  have hfew := lenP20 h ok
  have hal : s.h < a ∧ a ≤ i ∧ i - 32 ≤ a := by rw [ha]; split <;> omega
  obtain ⟨hh, hhe⟩ : ∃ hh, hh = s.h := ⟨_, rfl⟩
  have hk2 : w.cell? ⟨g, 2, none⟩ = some (.int .i64 hh) := (h.k.cell 2).trans (by rw [hhe]; simp [hiP20, h0])
  have e0 : s.M ++ fillM a 0 tk = s.M := by simp [fillM]
  have HG0 : Hid (Gap20 w g s X F a tk 0 A X.length c X F w) := Lib.hid ⟨by rw [e0]; exact h, rfl, rfl, Fr.refl _ _, fun j hj => .inl hj⟩
  clear e0
  have HP := Lib.hid (fun k => pairw_fill20 ok (a := a) (tk := tk) (k := k) hal.1)
  rw [← hhe] at ha hal hi h0
  have w1 : IntKind.i64.wrap (hh + 1) = hh + 1 := by rw [IntKind.wrap_i64]; omega
  have w2 : IntKind.i64.wrap (i - 32) = i - 32 := by rw [IntKind.wrap_i64]; omega
  have hg := h.k.lt
  obtain ⟨b0, hb0⟩ : ∃ b0, b0 = X.length := ⟨_, rfl⟩
  have HSTART : Hid (∀ y : Int, y = a → ∃ (k : Nat) (A2 : Option Addr) (n2 c2 : Nat) (X2 : List Pk20) (F2 : Nat → Prop), y = a + k ∧ y ≤ i ∧ Hid (Gap20 w g s X F a tk k A2 n2 c2 X2 F2 w)) := Lib.hid (fun y hy => ⟨0, A, X.length, c, X, F, by rw [hy]; simp, by omega, HG0⟩)
  have hmx : (¬ hh + 1 < i - 32 ∧ i - 32 < hh + 1 ∧ a = hh + 1) ∨ (¬ i - 32 < hh + 1 ∧ hh + 1 < i - 32 ∧ a = i - 32) ∨ (hh + 1 = i - 32 ∧ a = hh + 1) := by
    rcases Int.lt_trichotomy (hh + 1) (i - 32) with h1 | h1 | h1
    · rw [if_pos h1] at ha; exact .inr (.inl ⟨by omega, h1, ha⟩)
    · rw [if_neg (by omega)] at ha; exact .inr (.inr ⟨h1, ha⟩)
    · rw [if_neg (by omega)] at ha; exact .inl ⟨by omega, h1, ha⟩
  have HMX := Lib.hid hmx
  have HA := Lib.hid ha
  rw [← hb0] at hfew
  have HB0 := Lib.hid hb0
  clear h ok ha HG0 hhe hmx hb0
  go_enter Try.func27, Try.ntmps27
  go_upto_region 1 with (fail)
  all_goals (
    go_loopw [6] (fun v wr => ∃ (y : Int) (k : Nat) (A2 : Option Addr) (n2 c2 : Nat) (X2 : List Pk20) (F2 : Nat → Prop), v = .int .i64 y ∧ y = a + k ∧ y ≤ i ∧ Hid (Gap20 w g s X F a tk k A2 n2 c2 X2 F2 wr)) (fun v _ => (i - intOf v).toNat)
    case atStart =>
      first
        | (obtain ⟨k, A2, n2, c2, X2, F2, h1, h2, h3⟩ := HSTART.out (i - 32) (by have := HA.out; split at this <;> omega)
           exact ⟨i - 32, k, A2, n2, c2, X2, F2, rfl, h1, h2, h3⟩)
        | (obtain ⟨k, A2, n2, c2, X2, F2, h1, h2, h3⟩ := HSTART.out (hh + 1) (by have := HA.out; split at this <;> omega)
           exact ⟨hh + 1, k, A2, n2, c2, X2, F2, rfl, h1, h2, h3⟩)
    case round =>
      obtain ⟨y, k, A2, n2, c2, X2, F2, rfl, hy, hyi, HG⟩ := hrel
      have hnum := HG.out.num
      obtain ⟨c3, f3, hgw⟩ := HG.out.at_.slot
      rw [← HG.out.len] at c3
      rw [← HB0.out] at hnum
      clear HSTART HMX hk2
      by_cases hlt : y < i
      · have HROW := Lib.hid HG.out.at_.row
        have hwr := HG.out.len
        have HW : Hid (wr.ownsRow 0 60 1 (.slice A2 n2 c2) n2 (X2.map Pk20.p)) := Lib.hid (by rw [hwr]; exact HROW.out)
        have hk3 : ∀ (o o2 : Obj) (w3 : World), ((wr.alloc o).alloc o2).grownBy w3 (Value.slice A2 n2 c2).ownBlock → w3.cell? ⟨g, 3, none⟩ = some (.slice A2 n2 c2) ∧ w3.frozen? ⟨g, 3, none⟩ = false ∧ g < w3.heap.size := fun o o2 w3 hg3 => by
          have hb : BlkV w3 g 56 _ := ((HG.out.at_.k.alloc o).alloc o2).grown hg3 (fun e => own_ne HW.out HG.out.at_.k (by decide) e.symm)
          exact ⟨by rw [hwr]; exact (hb.cell 3).trans rfl, hb.frozen 3, hb.lt⟩
        have HK3 := Lib.hid hk3
        have hnn : n2 ≤ 1000000 := by omega
        have hn64 : n2 ≤ 64 := by omega
        have wy : IntKind.i64.wrap (y + 1) = y + 1 := by rw [IntKind.wrap_i64]; omega
        have HNX := Lib.hid (fun w3 A3 c3 => HG.out.next (w3 := w3) (A3 := A3) (c3 := c3) (by omega) y hy wr.heap.size rfl)
        have HY := Lib.hid hy
        clear HROW hwr hk3 hnum hy
        go_wp2_with (at_builtin; refine wpList_appV rfl (.tmp 26) (.tmp 31) elP20 rfl 0 (.slice A2 n2 c2) n2 (X2.map Pk20.p) rfl ((HW.out.alloc _).alloc _) _ rfl [.pointer (some ⟨wr.heap.size, 0, none⟩)] rfl (by simp [Value.oneCell']) (BlkV.new_at _ _ _ _ _ (by simp) rfl) hnn (Nat.zero_le _) ?_; intro v1 w3 hown hg3 hnw; obtain ⟨A3, d3, hv⟩ := own_formN hown; subst hv; obtain ⟨d1, d2, d4⟩ := HK3.out _ _ w3 hg3; have HN2 := Lib.hid (HNX.out w3 A3 d3 hown hg3 hnw); clear hown hg3 hnw)
        go_roundw
        case rel =>
          obtain ⟨F3, hF3⟩ := HN2.out
          exact ⟨y + 1, k + 1, A3, n2 + 1, d3, _, F3, by go_num, by have := HY.out; omega, by omega, Lib.hid hF3⟩
        case measure => simp [intOf]; omega
      · have hki : k = (i - a).toNat := by omega
        have hyi2 : y = i := by omega
        subst hyi2
        have HKI := Lib.hid hki
        have hP := HP.out k
        have hlen := HG.out.len
        have HPX := Lib.hid (risP20 HG.out.at_.eq hP)
        have HLE := Lib.hid hlen
        have hn64 : n2 ≤ 64 := by omega
        clear hki hy hnum hP hlen
        by_cases ho : 32 < n2
        · obtain ⟨o, hoe⟩ : ∃ o : Nat, n2 = o + 32 := ⟨n2 - 32, by omega⟩
          have hol : o < X2.length := by rw [← HLE.out]; omega
          obtain ⟨b, hA2, hb, hc⟩ := own_cell20 HG.out.at_.row hol
          subst hA2
          have hx := HG.out.at_.pk _ (List.getElem_mem hol)
          have hxi : wr.cell? ⟨(X2[o]'hol).q, 0, none⟩ = some (.int .i64 (X2[o]'hol).i) := (hx.cell 0).trans rfl
          have HFL := Lib.hid (filter_from20 HPX.out hol)
          obtain ⟨q, hq⟩ : ∃ q, q = (X2[o]'hol).q := ⟨_, rfl⟩
          obtain ⟨z, hz⟩ : ∃ z, z = (X2[o]'hol).i := ⟨_, rfl⟩
          simp only [Pk20.p, ← hq] at hc
          rw [← hq, ← hz] at hxi
          rw [← hz] at HFL
          have hover : (n2 : Int) - 32 = (o : Int) := by omega
          have ho0 : (0 : Int) < (o : Int) := by omega
          have hon : (o : Int) < (n2 : Int) := by omega
          have HOE := Lib.hid hoe
          have HB4 : Hid (Below wr.heap.size wr (wr.alloc (.cells #[.int .i64 z] 2))) := Lib.hid ((Below.refl _ _).alloc (Nat.le_refl _) _)
          have HZ4 : Hid (BlkV (wr.alloc (.cells #[.int .i64 z] 2)) wr.heap.size 2 [.int .i64 z]) := Lib.hid (BlkV.new_at wr _ _ [.int .i64 z] _ rfl rfl)
          have hX64 : X2.length ≤ 1000000 := by rw [← HLE.out]; omega
          have HX64 := Lib.hid hX64
          clear hx hq hz hoe hol hX64 ho
          go_wp2_with (go_at_call 22; ((refine (forget_any20 _ g _ (some ⟨b, 0, none⟩) c2 X2 F2 _ _ _ (HG.out.at_.below HB4.out) HX64.out (goes20_below (HG.out.at_.below HB4.out) wr.heap.size z HZ4.out)).mono ?_); rintro e w5 ⟨rfl, HE⟩))
          go_end0
          refine ⟨rfl, ?_⟩
          obtain ⟨F5, k1, k2, k3⟩ := HE.out
          rw [HFL.out, last_drop20 HG.out.at_.eq (by rw [← HLE.out]; exact HOE.out), HKI.out] at k1
          exact Lib.hid ⟨_, _, _, F5, k1, (HG.out.fr.then HB4.out).trans k2 (fun j hj => HG.out.new j hj), fun j hj => HG.out.new j (k3 j hj)⟩
        · have hover : ¬ (0 : Int) < (n2 : Int) - 32 := by omega
          have HLA := Lib.hid (last_all20 HG.out.at_.eq (by rw [← HLE.out]; omega))
          clear ho
          go_wp2
          go_end0
          refine ⟨rfl, Lib.hid ⟨A2, c2, X2, F2, ?_, HG.out.fr, HG.out.new⟩⟩
          rw [← HKI.out, ← HLA.out]
          exact HG.out.at_)
end Go.Proofs.Ytkmacpmdgbhhkaa
