/- LayersPlays' walk: whatever is wanted and comes, each answer is the document's. -/
import Derived.Test.YtejkballndfmmaaLayTr
namespace Go.Proofs.Ytejkballndfmmaa
open Go.RowKit
set_option linter.unusedVariables false

section
variable {T : World → Value → Chs → (Nat → Prop) → Prop} {w0 wx : World} {q : Addr} {g : Nat} {s t : Chs}
/-- Both choosers beside each other. -/
abbrev Bth23 (T : World → Value → Chs → (Nat → Prop) → Prop) (w0 : World) (q : Addr) (g : Nat) (s t : Chs) (wx : World) : Prop := OnK (PairK T R23 (.pointer (some ⟨g, 0, none⟩))) w0 (fun _ => False) (.pointer (some q)) (s, t) wx
theorem Bth23.want (hT : Tells23 T) (h : Bth23 T w0 q g s t wx) (ok : OkC s) (l : Int) (hl : -9223372036854775808 ≤ l ∧ l ≤ 9223372036854775807) (z : Int) (hz : wantE s l = z) :
    Calls Try.prog 11 #[.pointer (some q), .int .i64 l] wx fun e w' => e = .returned (.int .i64 z) ∧ Hid (Bth23 T w0 q g (wantS s l) t w') := by
  obtain ⟨F, f1, f2⟩ := h.one hT.lone r23_lone
  subst hz
  refine (hT.want wx q s F l f1 ok hl).mono ?_
  rintro e w' ⟨rfl, hk⟩
  exact ⟨rfl, Lib.hid ((f2 _ _ _ hk.out.stpB).1.less (fun k hk => .inl hk))⟩
theorem Bth23.rwant (hL : Lone T) (h : Bth23 T w0 q g s t wx) (l : Int) (z : Int) (hz : wantE t l = z) :
    Calls Try.prog 12 #[.pointer (some ⟨g, 0, none⟩), .int .i64 l] wx fun e w' => e = .returned (.int .i64 z) ∧ Hid (Bth23 T w0 q g s (wantS t l) w') := by
  obtain ⟨F, f1, f2⟩ := h.two hL r23_lone
  subst hz
  refine (rwant_any23 g t F l wx f1).mono ?_
  rintro e w' ⟨rfl, hk⟩
  exact ⟨rfl, Lib.hid ((f2 _ _ _ hk.out.stpB).1.less (fun k hk => .inl hk))⟩
theorem Bth23.take (hT : Tells23 T) (h : Bth23 T w0 q g s t wx) (ok : OkC s) (l : Int) (k : Bool) (hl : -9223372036854775808 ≤ l ∧ l ≤ 9223372036854775807) (x y : Bool) (hx : takeA s l k = x) (hy : takeT s l k = y) :
    Calls Try.prog 9 #[.pointer (some q), .int .i64 l, .bool k] wx fun e w' => e = .returned (.tuple #[.bool x, .bool y]) ∧ Hid (Bth23 T w0 q g (takeS s l k) t w') := by
  obtain ⟨F, f1, f2⟩ := h.one hT.lone r23_lone
  subst hx
  subst hy
  refine (hT.take wx q s F l k f1 ok hl).mono ?_
  rintro e w' ⟨rfl, hk⟩
  exact ⟨rfl, Lib.hid ((f2 _ _ _ hk.out.stpB).1.less (fun k hk => .inl hk))⟩
theorem Bth23.rtake (hL : Lone T) (h : Bth23 T w0 q g s t wx) (l : Int) (k : Bool) (x y : Bool) (hx : takeA t l k = x) (hy : takeT t l k = y) :
    Calls Try.prog 10 #[.pointer (some ⟨g, 0, none⟩), .int .i64 l, .bool k] wx fun e w' => e = .returned (.tuple #[.bool x, .bool y]) ∧ Hid (Bth23 T w0 q g s (takeS t l k) w') := by
  obtain ⟨F, f1, f2⟩ := h.two hL r23_lone
  subst hx
  subst hy
  refine (rtake_any23 g t F l k wx f1).mono ?_
  rintro e w' ⟨rfl, hk⟩
  exact ⟨rfl, Lib.hid ((f2 _ _ _ hk.out.stpB).1.less (fun k hk => .inl hk))⟩
theorem Bth23.on (hL : Lone T) (h : Bth23 T w0 q g s t wx) (m : Nat) : Bth23 T w0 q g s t (wx.drewN m) := (OnK.on (lone_pair hL r23_lone _) h (drewN_bel _ m)).1
theorem Bth23.d1 (hL : Lone T) (h : Bth23 T w0 q g s t wx) : Bth23 T w0 q g s t wx.drew := (OnK.on (lone_pair hL r23_lone _) h (wy := wx.drew) ⟨rfl, rfl, rfl, Nat.le_refl _, fun _ _ => rfl⟩).1
theorem Bth23.tell (hT : Tells23 T) (h : Bth23 T w0 q g s t wx) (ok : OkC s) (a c : Int) (ha : s.w = a) (hc : s.g = c) :
    (Calls Try.prog 13 #[.pointer (some q)] wx fun e w' => e = .returned (.int .i64 a) ∧ ∃ m, w' = wx.drewN m) ∧
    (Calls Try.prog 14 #[.pointer (some q)] wx fun e w' => e = .returned (.int .i64 c) ∧ ∃ m, w' = wx.drewN m) ∧
    (Calls Try.prog 15 #[.pointer (some q)] wx fun e w' => e = .returned (.bool (a != c)) ∧ ∃ m, w' = wx.drewN m) := by
  obtain ⟨F, f1, f2⟩ := h.one hT.lone r23_lone
  subst ha
  subst hc
  exact ⟨hT.wanted wx q s F f1 ok, hT.goes wx q s F f1 ok, hT.needs wx q s F f1 ok⟩
theorem Bth23.cells (h : Bth23 T w0 q g s t wx) : wx.cell? ⟨g, 1, none⟩ = some (.int .i64 t.w) ∧ wx.cell? ⟨g, 2, none⟩ = some (.int .i64 t.g) := by
  obtain ⟨F, ⟨F1, F2, a1, ⟨g2, e1, h1, _⟩, _⟩, _⟩ := h.ex
  cases e1
  exact ⟨(h1.cell 1).trans rfl, (h1.cell 2).trans rfl⟩
end
/-- Both play s. -/
def Ply23 (T : World → Value → Chs → (Nat → Prop) → Prop) (w0 : World) (q : Addr) (g : Nat) (s : Chs) (wx : World) : Prop := Bth23 T w0 q g s s wx ∧ OkC s

set_option maxRecDepth 100000 in
set_option maxHeartbeats 2000000 in
theorem layersPlays_walk {T : World → Value → Chs → (Nat → Prop) → Prop} (hT : Tells23 T) (m : Int) (A : Option Addr) (n cap : Nat) (z : Nat → Nat → Value) (w : World) (hm : -9223372036854775808 ≤ m ∧ m ≤ 9223372036854775807) (hr : RdF [.bool, .int .i64, .bool] w A n z) :
    Calls Try.prog 3 #[.int .i64 m, .slice A n cap] w fun e w' => e = .returned (.bool true) ∧ Below w.heap.size w w' := by
  have H := Lib.hid hT
  have HAL := Lib.hid (alive_any23 hT w)
  have hn := hr.small
  have HR := Lib.hid hr
  by_cases hmm : ¬ (1 ≤ m ∧ m ≤ 4)
  · have HN := Lib.hid (fun wx => hT.new_no m wx hm hmm)
    clear hT hr HR
    by_cases h1 : m < 1
    · clear hmm
      go_enter Try.func3, Try.ntmps3
      go_wp2_with (first
        | (go_at_call 6; ((with_reducible refine (Hid.out HAL).mono ?_); rintro e w1 ⟨rfl, hb1⟩))
        | (go_at_call 7; ((with_reducible refine (Hid.out HN _).mono ?_); rintro e w2 ⟨rfl, hb2⟩)))
      go_ret
      exact ⟨rfl, hb1.trans (hb2.out.mono hb1.size)⟩
    · have h2 : 4 < m := by omega
      clear hmm
      go_enter Try.func3, Try.ntmps3
      go_wp2_with (first
        | (go_at_call 6; ((with_reducible refine (Hid.out HAL).mono ?_); rintro e w1 ⟨rfl, hb1⟩))
        | (go_at_call 7; ((with_reducible refine (Hid.out HN _).mono ?_); rintro e w2 ⟨rfl, hb2⟩)))
      go_ret
      exact ⟨rfl, hb1.trans (hb2.out.mono hb1.size)⟩
  have hm2 : 1 ≤ m ∧ m ≤ 4 := by omega
  have HN := Lib.hid (fun wx => hT.new_ok m wx hm2)
  have HRN := Lib.hid (fun wx => rnew_any23 m wx)
  have O1 := Lib.hid (newC_ok hm2)
  clear hT hr hmm
  go_enter Try.func3, Try.ntmps3
  go_wp2_with (first
    | (go_at_call 6; ((with_reducible refine (Hid.out HAL).mono ?_); rintro e w1 ⟨rfl, hb1⟩; have HB1 := Lib.hid hb1; clear hb1))
    | (go_at_call 7; ((with_reducible refine (Hid.out HN _).mono ?_); rintro e w2 ⟨q, F, rfl, HK⟩; have HO := Lib.hid (OnK.new HB1.out HK.out); clear HK))
    | (go_at_call 8; ((with_reducible refine (Hid.out HRN _).mono ?_); rintro e w3 ⟨g, F2, rfl, HK2⟩; have HP : Hid (Ply23 T w q g (newC m) w3) := Lib.hid ⟨(OnK.pair H.out.lone HO.out HK2.out).1, O1.out⟩; clear HK2)))
  go_loopw [7] (fun vi wr => ∃ (k : Nat) (s : Chs), k ≤ n ∧ k ≤ 100 ∧ vi = .int .i64 k ∧ Hid (Ply23 T w q g s wr)) (fun i _ => n - (intOf i).toNat)
  case atStart => exact ⟨0, _, by omega, by omega, rfl, HP⟩
  case round =>
    clear HP HO HN HRN HAL HB1 O1
    obtain ⟨k, s, hk, hk80, rfl, HS⟩ := hrel
    by_cases hlt : k < n
    · by_cases hk8 : k < 100
      · have hki : (k : Int) < (n : Int) := by omega
        have hk8i : (k : Int) < 100 := by omega
        obtain ⟨b, off, rfl, hcs⟩ := HR.out.at_ (by omega)
        obtain ⟨tv, htv⟩ := HR.out.2.1 k hlt 0 _ rfl
        obtain ⟨lv, hlv, wlv⟩ := HR.out.2.1 k hlt 1 _ rfl
        obtain ⟨kv, hkv⟩ := HR.out.2.1 k hlt 2 _ rfl
        have HCell : Hid (∀ wx, Below w.heap.size w wx → wx.cell? ⟨b, off + k * 3, none⟩ = some (.bool tv) ∧ wx.cell? ⟨b, off + k * 3 + 1, none⟩ = some (.int .i64 lv) ∧ wx.cell? ⟨b, off + k * 3 + 2, none⟩ = some (.bool kv)) := Lib.hid fun wx hb => ⟨by rw [← htv]; exact hcs wx hb k hlt 0 (by decide), by rw [← hlv]; exact hcs wx hb k hlt 1 (by decide), by rw [← hkv]; exact hcs wx hb k hlt 2 (by decide)⟩
        have wl := bounds_i64 wlv
        clear hcs htv hlv hkv wlv
        obtain ⟨c0, c1, c2⟩ := HCell.out wr HS.out.1.below
        go_upto_if 42 with (fail)
        go_cut [8, 9, 10, 11] (fun _ _ _ _ wx => ∃ s, Hid (Ply23 T w q g s wx))
        case first =>
          cases tv with
          | true =>
            obtain ⟨x, hx⟩ : ∃ x, x = takeA s lv kv := ⟨_, rfl⟩
            obtain ⟨y, hy⟩ : ∃ y, y = takeT s lv kv := ⟨_, rfl⟩
            have P1 := Lib.hid (Bth23.take H.out (HS.out.1.d1 H.out.lone) HS.out.2 lv kv wl x y hx.symm hy.symm)
            have HR1 := Lib.hid (fun wx h => Bth23.rtake (T := T) (w0 := w) (q := q) (g := g) (s := takeS s lv kv) (t := s) (wx := wx) H.out.lone h lv kv x y hx.symm hy.symm)
            have HFIN : Hid (∀ wx, Bth23 T w q g (takeS s lv kv) (takeS s lv kv) wx → Ply23 T w q g (takeS s lv kv) wx) := Lib.hid (fun wx h => ⟨h, takeS_ok HS.out.2 lv kv⟩)
            have HS0 : Hid (wr.drew.cell? ⟨b, off + k * 3 + 1, none⟩ = some (.int .i64 lv) ∧ wr.drew.cell? ⟨b, off + k * 3 + 2, none⟩ = some (.bool kv)) := Lib.hid ⟨c1, c2⟩
            clear c0 c1 c2 HS hx hy
            go_upto_region 13 with (fail)
            go_region_held3 (fun wx => wx.cell? ⟨b, off + k * 3 + 1, none⟩ = some (.int .i64 lv) ∧ wx.cell? ⟨b, off + k * 3 + 2, none⟩ = some (.bool kv))
              (first | with_reducible exact HS0.out | with_reducible exact HS4.out)
              ((go_at_call 9; (with_reducible refine (Hid.out P1).mono ?_); rintro e w4 ⟨rfl, HK4⟩; have HS4 := Lib.hid (HCell.out w4 HK4.out.below).2))
            obtain ⟨d0, d1, d2⟩ := HCell.out w4 HK4.out.below
            have P2 := Lib.hid (HR1.out _ (HK4.out.d1 H.out.lone))
            have HS5 : Hid (w4.drew.cell? ⟨b, off + k * 3 + 1, none⟩ = some (.int .i64 lv) ∧ w4.drew.cell? ⟨b, off + k * 3 + 2, none⟩ = some (.bool kv)) := Lib.hid ⟨d1, d2⟩
            clear HS0 P1 HR1 HK4 d0 d1 d2
            go_upto_region 14 with (fail)
            go_region_held3 (fun wx => wx.cell? ⟨b, off + k * 3 + 1, none⟩ = some (.int .i64 lv) ∧ wx.cell? ⟨b, off + k * 3 + 2, none⟩ = some (.bool kv))
              (first | with_reducible exact HS5.out | with_reducible exact HS6.out)
              ((go_at_call 10; (with_reducible refine (Hid.out P2).mono ?_); rintro e w5 ⟨rfl, HK5⟩; have HS6 := Lib.hid (HCell.out w5 HK5.out.below).2))
            clear HS5 P2
            go_wp2
            go_meet
            exact ⟨_, Lib.hid (HFIN.out _ HK5.out)⟩
          | false =>
            obtain ⟨x, hx⟩ : ∃ x, x = wantE s lv := ⟨_, rfl⟩
            have P1 := Lib.hid (Bth23.want H.out (HS.out.1.d1 H.out.lone) HS.out.2 lv wl x hx.symm)
            have HR1 := Lib.hid (fun wx h => Bth23.rwant (T := T) (w0 := w) (q := q) (g := g) (s := wantS s lv) (t := s) (wx := wx) H.out.lone h lv x hx.symm)
            have HFIN : Hid (∀ wx, Bth23 T w q g (wantS s lv) (wantS s lv) wx → Ply23 T w q g (wantS s lv) wx) := Lib.hid (fun wx h => ⟨h, wantS_ok HS.out.2 lv⟩)
            have HS0 : Hid (wr.drew.cell? ⟨b, off + k * 3 + 1, none⟩ = some (.int .i64 lv)) := Lib.hid c1
            clear c0 c1 c2 HS hx
            go_upto_region 17 with (fail)
            go_region_held3 (fun wx => wx.cell? ⟨b, off + k * 3 + 1, none⟩ = some (.int .i64 lv))
              (first | with_reducible exact HS0.out | with_reducible exact HS4.out)
              (first
                | (go_at_call 11; (with_reducible refine (Hid.out P1).mono ?_); rintro e w4 ⟨rfl, HK4⟩; have HS4 := Lib.hid (HCell.out w4 HK4.out.below).2.1; have P2 := Lib.hid (HR1.out _ HK4.out))
                | (go_at_call 12; (with_reducible refine (Hid.out P2).mono ?_); rintro e w5 ⟨rfl, HK5⟩; have HS4 := Lib.hid (HCell.out w5 HK5.out.below).2.1))
            go_wp2
            go_meet
            exact ⟨_, Lib.hid (HFIN.out _ HK5.out)⟩
        case rest =>
          clear c0 c1 c2 HS
          obtain ⟨s, HS⟩ := hcut
          obtain ⟨c1, c2⟩ := HS.out.1.cells
          obtain ⟨a, ha⟩ : ∃ a, a = s.w := ⟨_, rfl⟩
          obtain ⟨c, hc⟩ : ∃ c, c = s.g := ⟨_, rfl⟩
          have QQ := Lib.hid (fun m => Bth23.tell H.out (HS.out.1.on H.out.lone m) HS.out.2 a c ha.symm hc.symm)
          have HON : Hid (∀ m, Ply23 T w q g s (wc.drewN m)) := Lib.hid (fun m => ⟨HS.out.1.on H.out.lone m, HS.out.2⟩)
          rw [← ha] at c1
          rw [← hc] at c2
          clear ha hc HS
          go_upto_region 19 with (fail)
          go_quiet ((first
            | (go_at_call 13; exact Calls.quiet_of (QQ.out _).1)
            | (go_at_call 14; exact Calls.quiet_of (QQ.out _).2.1)
            | (go_at_call 15; exact Calls.quiet_of (QQ.out _).2.2)))
          go_wp2
          go_roundw
          case rel => exact ⟨k + 1, s, by omega, by omega, by go_num, Lib.hid (HON.out _)⟩
          case measure => (simp [intOf]; try omega)
      · obtain rfl : k = 100 := by omega
        have hki : (100 : Int) < (n : Int) := by omega
        have HE := Lib.hid HS.out.1.below
        clear HS
        go_wp2
        go_ret
        exact ⟨rfl, HE.out⟩
    · obtain rfl : k = n := by omega
      have HE := Lib.hid HS.out.1.below
      clear HS
      go_wp2
      go_ret
      exact ⟨rfl, HE.out⟩
end Go.Proofs.Ytejkballndfmmaa
