/- CoalescePlays' walk: whatever is asked of a gate and comes, each answer is the document's. Printed by gen/gencoapl.py. -/
import Derived.Test.YthgenpokpoiakaaCoaL1
import Derived.Test.YthgenpokpoiakaaFields
import Derived.Deep.DeepCutAuto
namespace Go.Proofs.Ythgenpokpoiakaa
open Go.RowKit
set_option linter.unusedVariables false

section
variable {T : World → Value → Gte → (Nat → Prop) → Prop} {w0 wx : World} {q : Addr} {g : Nat} {s t : Gte}
/-- Both gates beside each other. -/
abbrev Bth24 (T : World → Value → Gte → (Nat → Prop) → Prop) (w0 : World) (q : Addr) (g : Nat) (s t : Gte) (wx : World) : Prop := OnK (PairK T R24 (.pointer (some ⟨g, 0, none⟩))) w0 (fun _ => False) (.pointer (some q)) (s, t) wx
theorem Bth24.ask (hT : Tells24 T) (h : Bth24 T w0 q g s t wx) (ok : OkG s) :
    Calls Try.prog 9 #[.pointer (some q)] wx fun e w' => e = .returned (.tuple #[]) ∧ Hid (Bth24 T w0 q g (askG s) t w') := by
  obtain ⟨F, f1, f2⟩ := h.one hT.lone r24_lone
  refine (hT.ask wx q s F f1 ok).mono ?_
  rintro e w' ⟨rfl, hk⟩
  exact ⟨rfl, Lib.hid ((f2 _ _ _ hk.out.stpB).1.less (fun k hk => .inl hk))⟩
theorem Bth24.came (hT : Tells24 T) (h : Bth24 T w0 q g s t wx) (ok : OkG s) :
    Calls Try.prog 12 #[.pointer (some q)] wx fun e w' => e = .returned (.tuple #[]) ∧ Hid (Bth24 T w0 q g (cameG s) t w') := by
  obtain ⟨F, f1, f2⟩ := h.one hT.lone r24_lone
  refine (hT.came wx q s F f1 ok).mono ?_
  rintro e w' ⟨rfl, hk⟩
  exact ⟨rfl, Lib.hid ((f2 _ _ _ hk.out.stpB).1.less (fun k hk => .inl hk))⟩
theorem Bth24.due (hT : Tells24 T) (h : Bth24 T w0 q g s t wx) (ok : OkG s) (hl : s.O.length ≤ 1000) (k : Int) (hk : -4611686018427387903 ≤ k ∧ k ≤ 4611686018427387903) (x : Bool) (hx : dueB s k = x) :
    Calls Try.prog 10 #[.pointer (some q), .int .i64 k] wx fun e w' => e = .returned (.bool x) ∧ Hid (Bth24 T w0 q g (dueG s k) t w') := by
  obtain ⟨F, f1, f2⟩ := h.one hT.lone r24_lone
  subst hx
  refine (hT.due wx q s F k f1 ok hl hk).mono ?_
  rintro e w' ⟨rfl, hk⟩
  exact ⟨rfl, Lib.hid ((f2 _ _ _ hk.out.stpB).1.less (fun k hk => .inl hk))⟩
theorem Bth24.rdue (hL : Lone T) (h : Bth24 T w0 q g s t wx) (ok : OkG t) (hl : t.O.length ≤ 1000) (k : Int) (hk : -4611686018427387903 ≤ k ∧ k ≤ 4611686018427387903) (x : Bool) (hx : dueB t k = x) :
    Calls Try.prog 11 #[.pointer (some ⟨g, 0, none⟩), .int .i64 k] wx fun e w' => e = .returned (.bool x) ∧ Hid (Bth24 T w0 q g s (dueG t k) w') := by
  obtain ⟨F, f1, f2⟩ := h.two hL r24_lone
  subst hx
  refine (rdue_any24 g t F k wx f1 ok hl hk).mono ?_
  rintro e w' ⟨rfl, hk⟩
  exact ⟨rfl, Lib.hid ((f2 _ _ _ hk.out.stpB).1.less (fun k hk => .inl hk))⟩
theorem Bth24.pok (hL : Lone T) (h : Bth24 T w0 q g s t wx) (b : Bool) : wx.frozen? ⟨g, 1, none⟩ = false ∧ wx.cell? ⟨g, 1, none⟩ = some (.bool t.a) ∧ g < wx.heap.size ∧ Bth24 T w0 q g s ⟨t.I, b, t.O⟩ (wx.setCell ⟨g, 1, none⟩ (.bool b)) := by
  obtain ⟨F, f1, f2⟩ := h.two hL r24_lone
  obtain ⟨g2, vO, e, hB, ho, hF⟩ := f1
  cases e
  refine ⟨hB.frozen 1, (hB.cell 1).trans rfl, hB.lt, (f2 ⟨t.I, b, t.O⟩ (fun _ => False) _ ?_).1.less (fun k hk => .inl hk)⟩
  exact ⟨F, ⟨g, vO, rfl, hB.set_ 1 (.bool b), own_fr ho (Fr.of_only (F := fun k => k = g) (Only.set _ _ _ _) rfl) (fun k hk e => own_ne ho hB neG (by rw [← e]; exact hk)), hF⟩, Fr.of_only (F := F) (Only.set wx g 1 _) ((hF g).2 (.inl rfl)), fun k hk => .inl hk, fun k hk => hk.elim⟩
theorem Bth24.on (hL : Lone T) (h : Bth24 T w0 q g s t wx) (m : Nat) : Bth24 T w0 q g s t (wx.drewN m) := (OnK.on (lone_pair hL r24_lone _) h (wy := wx.drewN m) ⟨rfl, rfl, rfl, Nat.le_refl _, fun _ _ => rfl⟩).1
theorem Bth24.tell (hT : Tells24 T) (h : Bth24 T w0 q g s t wx) (ok : OkG s) (hl : s.O.length ≤ 1000) (a : Bool) (n : Nat) (ha : s.a = a) (hn : s.O.length = n) :
    (Calls Try.prog 13 #[.pointer (some q)] wx fun e w' => e = .returned (.bool a) ∧ ∃ m, w' = wx.drewN m) ∧
    (Calls Try.prog 14 #[.pointer (some q)] wx fun e w' => e = .returned (.int .i64 n) ∧ ∃ m, w' = wx.drewN m) := by
  obtain ⟨F, f1, f2⟩ := h.one hT.lone r24_lone
  subst ha
  subst hn
  exact ⟨hT.asked wx q s F f1 ok, hT.sent wx q s F f1 ok hl⟩
theorem Bth24.cells (h : Bth24 T w0 q g s t wx) : wx.cell? ⟨g, 1, none⟩ = some (.bool t.a) ∧ ∃ A n c, wx.cell? ⟨g, 2, none⟩ = some (.slice A n c) ∧ n = t.O.length := by
  obtain ⟨F, ⟨F1, F2, a1, ⟨g2, vO, e1, h1, h2, _⟩, _⟩, _⟩ := h.ex
  cases e1
  obtain ⟨A, c, rfl⟩ := own_formN h2
  exact ⟨(h1.cell 1).trans rfl, A, _, c, (h1.cell 2).trans rfl, rfl⟩
end
/-- Both play s. -/
def Ply24 (T : World → Value → Gte → (Nat → Prop) → Prop) (w0 : World) (q : Addr) (g : Nat) (s : Gte) (wx : World) : Prop := Bth24 T w0 q g s s wx ∧ OkG s

set_option maxRecDepth 100000 in
set_option maxHeartbeats 2000000 in
theorem coalescePlays_walk {T : World → Value → Gte → (Nat → Prop) → Prop} (hT : Tells24 T) (m : Int) (A : Option Addr) (n cap : Nat) (z : Nat → Nat → Value) (w : World) (hm : -9223372036854775808 ≤ m ∧ m ≤ 9223372036854775807) (hr : RdF [.int .u8, .int .i64] w A n z) :
    Calls Try.prog 3 #[.int .i64 m, .slice A n cap] w fun e w' => e = .returned (.bool true) ∧ Below w.heap.size w w' := by
  have H := Lib.hid hT
  have HAL := Lib.hid (alive_any24 hT w)
  have hn := hr.small
  have HR := Lib.hid hr
  have HN := Lib.hid (fun wx => hT.new m wx hm)
  have HRN := Lib.hid (fun wx => rnew_any24 m wx hm.2)
  have O1 := Lib.hid (newG_ok hm.2)
  clear hT hr
  go_enter Try.func3, Try.ntmps3
  go_wp2_with (first
    | (go_at_call 6; ((with_reducible refine (Hid.out HAL).mono ?_); rintro e w1 ⟨rfl, hb1⟩; have HB1 := Lib.hid hb1; clear hb1))
    | (go_at_call 7; ((with_reducible refine (Hid.out HN _).mono ?_); rintro e w2 ⟨q, F, rfl, HK⟩; have HO := Lib.hid (OnK.new HB1.out HK.out); clear HK))
    | (go_at_call 8; ((with_reducible refine (Hid.out HRN _).mono ?_); rintro e w3 ⟨g, F2, rfl, HK2⟩; have HP : Hid (Ply24 T w q g (newG m) w3) := Lib.hid ⟨(OnK.pair H.out.lone HO.out HK2.out).1, O1.out⟩; clear HK2)))
  go_loopw [7] (fun vi wr => ∃ (k : Nat) (s : Gte), k ≤ n ∧ k ≤ 100 ∧ s.O.length ≤ k ∧ vi = .int .i64 k ∧ Hid (Ply24 T w q g s wr)) (fun i _ => n - (intOf i).toNat)
  case atStart => exact ⟨0, _, by omega, by omega, by simp [newG], rfl, HP⟩
  case round =>
    clear HP HO HN HRN HAL HB1 O1
    obtain ⟨k, s, hk, hk80, hsl, rfl, HS⟩ := hrel
    by_cases hlt : k < n
    · by_cases hk8 : k < 100
      · have hki : (k : Int) < (n : Int) := by omega
        have hk8i : (k : Int) < 100 := by omega
        obtain ⟨b, off, rfl, hcs⟩ := HR.out.at_ (by omega)
        obtain ⟨kv, hkv, wkv⟩ := HR.out.2.1 k hlt 0 _ rfl
        obtain ⟨tv, htv, wtv⟩ := HR.out.2.1 k hlt 1 _ rfl
        have HCell : Hid (∀ wx, Below w.heap.size w wx → wx.cell? ⟨b, off + k * 2, none⟩ = some (.int .u8 kv) ∧ wx.cell? ⟨b, off + k * 2 + 1, none⟩ = some (.int .i64 tv)) := Lib.hid fun wx hb => ⟨by rw [← hkv]; exact hcs wx hb k hlt 0 (by decide), by rw [← htv]; exact hcs wx hb k hlt 1 (by decide)⟩
        have wt := bounds_i64 wtv
        have wk := bounds_u8 wkv
        clear hcs hkv htv wkv wtv
        obtain ⟨c0, c1⟩ := HCell.out wr HS.out.1.below
        by_cases hg : 4611686018427387903 < tv ∨ tv < -4611686018427387903
        · have HE := Lib.hid HS.out.1.below
          clear HS
          by_cases hg1 : 4611686018427387903 < tv
          · go_wp2
            go_ret
            exact ⟨rfl, HE.out⟩
          · have hg2 : tv < -4611686018427387903 := by omega
            go_wp2
            go_ret
            exact ⟨rfl, HE.out⟩
        · have htb : -4611686018427387903 ≤ tv ∧ tv ≤ 4611686018427387903 := by omega
          clear hg
          have em : kv.tmod 3 = kv % 3 := Int.tmod_eq_emod_of_nonneg wk.1
          have h3 : kv % 3 = 0 ∨ kv % 3 = 1 ∨ kv % 3 = 2 := by omega
          rcases h3 with h3 | h3 | h3
          · rw [h3] at em
            (
              have P1 := Lib.hid (Bth24.ask H.out HS.out.1 HS.out.2)
              go_upto_region 19 with (go_at_call 9; ((with_reducible refine (Hid.out P1).mono ?_); rintro e w3 ⟨rfl, HK3⟩; obtain ⟨p1, p2, p0, p3⟩ := HK3.out.pok H.out.lone true))
              obtain ⟨w9, hw9⟩ : ∃ w9, w9 = w3.setCell ⟨g, 1, none⟩ (.bool true) := ⟨_, rfl⟩
              have HQ : Hid (Ply24 T w q g (askG s) w9) := Lib.hid (by rw [hw9]; exact ⟨p3, askG_ok HS.out.2⟩)
              have HL : Hid (((askG s)).O.length ≤ k + 1) := Lib.hid (by have := hsl; simp only [askG]; omega)
              rw [← hw9]
              obtain ⟨s2, hs2⟩ : ∃ s2, s2 = (askG s) := ⟨_, rfl⟩
              rw [← hs2] at HQ HL
              clear hw9 hs2 p1 p2 p0 p3 P1 HK3 HS hsl c0 c1
              obtain ⟨d1, A2, n2, d2, d3, hn2⟩ := HQ.out.1.cells
              obtain ⟨x2, hx2⟩ : ∃ x2, x2 = s2.a := ⟨_, rfl⟩
              have hnb : n2 ≤ 1000 := by have := HL.out; omega
              have QQ := Lib.hid (fun m => Bth24.tell H.out (HQ.out.1.on H.out.lone m) HQ.out.2 (by have := HL.out; omega) x2 n2 hx2.symm hn2.symm)
              have HON : Hid (∀ m, Ply24 T w q g s2 (w9.drewN m)) := Lib.hid (fun m => ⟨HQ.out.1.on H.out.lone m, HQ.out.2⟩)
              rw [← hx2] at d1
              clear hx2 hn2 HQ
              go_upto_region 19 with (fail)
              go_quiet ((first
                | (go_at_call 13; exact Calls.quiet_of (QQ.out _).1)
                | (go_at_call 14; exact Calls.quiet_of (QQ.out _).2)))
              go_wp2
              go_roundw
              case rel => exact ⟨k + 1, s2, by omega, by omega, HL.out, by go_num, Lib.hid (HON.out _)⟩
              case measure => (simp [intOf]; try omega)
            )
          · rw [h3] at em
            (
              obtain ⟨x, hx⟩ : ∃ x, x = dueB s tv := ⟨_, rfl⟩
              have P1 := Lib.hid (Bth24.due H.out HS.out.1 HS.out.2 (by omega) tv htb x hx.symm)
              have HR1 := Lib.hid (fun wx h => Bth24.rdue (T := T) (w0 := w) (q := q) (g := g) (s := dueG s tv) (t := s) (wx := wx) H.out.lone h HS.out.2 (by omega) tv htb x hx.symm)
              go_upto_region 19 with (first
                | (go_at_call 10; ((with_reducible refine (Hid.out P1).mono ?_); rintro e w3 ⟨rfl, HK3⟩; have P2 := Lib.hid (HR1.out _ HK3.out)))
                | (go_at_call 11; ((with_reducible refine (Hid.out P2).mono ?_); rintro e w4 ⟨rfl, HK4⟩)))
              obtain ⟨w9, hw9⟩ : ∃ w9, w9 = w4 := ⟨_, rfl⟩
              have HQ : Hid (Ply24 T w q g (dueG s tv) w9) := Lib.hid (by rw [hw9]; exact ⟨HK4.out, dueG_ok HS.out.2 htb⟩)
              have HL : Hid (((dueG s tv)).O.length ≤ k + 1) := Lib.hid (by have := dueG_len s tv; omega)
              rw [← hw9]
              obtain ⟨s2, hs2⟩ : ∃ s2, s2 = (dueG s tv) := ⟨_, rfl⟩
              rw [← hs2] at HQ HL
              clear hw9 hs2 P1 P2 HR1 HK3 HK4 HS hsl c0 c1 hx
              obtain ⟨d1, A2, n2, d2, d3, hn2⟩ := HQ.out.1.cells
              obtain ⟨x2, hx2⟩ : ∃ x2, x2 = s2.a := ⟨_, rfl⟩
              have hnb : n2 ≤ 1000 := by have := HL.out; omega
              have QQ := Lib.hid (fun m => Bth24.tell H.out (HQ.out.1.on H.out.lone m) HQ.out.2 (by have := HL.out; omega) x2 n2 hx2.symm hn2.symm)
              have HON : Hid (∀ m, Ply24 T w q g s2 (w9.drewN m)) := Lib.hid (fun m => ⟨HQ.out.1.on H.out.lone m, HQ.out.2⟩)
              rw [← hx2] at d1
              clear hx2 hn2 HQ
              go_upto_region 19 with (fail)
              go_quiet ((first
                | (go_at_call 13; exact Calls.quiet_of (QQ.out _).1)
                | (go_at_call 14; exact Calls.quiet_of (QQ.out _).2)))
              go_wp2
              go_roundw
              case rel => exact ⟨k + 1, s2, by omega, by omega, HL.out, by go_num, Lib.hid (HON.out _)⟩
              case measure => (simp [intOf]; try omega)
            )
          · rw [h3] at em
            (
              have P1 := Lib.hid (Bth24.came H.out HS.out.1 HS.out.2)
              go_upto_region 19 with (go_at_call 12; ((with_reducible refine (Hid.out P1).mono ?_); rintro e w3 ⟨rfl, HK3⟩; obtain ⟨p1, p2, p0, p3⟩ := HK3.out.pok H.out.lone false))
              obtain ⟨w9, hw9⟩ : ∃ w9, w9 = w3.setCell ⟨g, 1, none⟩ (.bool false) := ⟨_, rfl⟩
              have HQ : Hid (Ply24 T w q g (cameG s) w9) := Lib.hid (by rw [hw9]; exact ⟨p3, cameG_ok HS.out.2⟩)
              have HL : Hid (((cameG s)).O.length ≤ k + 1) := Lib.hid (by have := hsl; simp only [cameG]; omega)
              rw [← hw9]
              obtain ⟨s2, hs2⟩ : ∃ s2, s2 = (cameG s) := ⟨_, rfl⟩
              rw [← hs2] at HQ HL
              clear hw9 hs2 p1 p2 p0 p3 P1 HK3 HS hsl c0 c1
              obtain ⟨d1, A2, n2, d2, d3, hn2⟩ := HQ.out.1.cells
              obtain ⟨x2, hx2⟩ : ∃ x2, x2 = s2.a := ⟨_, rfl⟩
              have hnb : n2 ≤ 1000 := by have := HL.out; omega
              have QQ := Lib.hid (fun m => Bth24.tell H.out (HQ.out.1.on H.out.lone m) HQ.out.2 (by have := HL.out; omega) x2 n2 hx2.symm hn2.symm)
              have HON : Hid (∀ m, Ply24 T w q g s2 (w9.drewN m)) := Lib.hid (fun m => ⟨HQ.out.1.on H.out.lone m, HQ.out.2⟩)
              rw [← hx2] at d1
              clear hx2 hn2 HQ
              go_upto_region 19 with (fail)
              go_quiet ((first
                | (go_at_call 13; exact Calls.quiet_of (QQ.out _).1)
                | (go_at_call 14; exact Calls.quiet_of (QQ.out _).2)))
              go_wp2
              go_roundw
              case rel => exact ⟨k + 1, s2, by omega, by omega, HL.out, by go_num, Lib.hid (HON.out _)⟩
              case measure => (simp [intOf]; try omega)
            )
      · obtain rfl : k = 100 := by omega
        have hki : (100 : Int) < (n : Int) := by omega
        have HE := Lib.hid HS.out.1.below
        clear HS
        go_wp2
        go_ret
        exact ⟨rfl, HE.out⟩
    · obtain rfl : k = n := by omega
      have HE := Lib.hid HS.out.1.below
      clear HS
      go_wp2
      go_ret
      exact ⟨rfl, HE.out⟩
end Go.Proofs.Ythgenpokpoiakaa
