/- RingPlays' walk: whatever is done to any ring, each answer, and all that it has, is the document's; never is there more than room. -/
import Derived.Test.YtjbeheegciacpaaRngL3
import Derived.Test.YtjbeheegciacpaaElts
import Derived.Deep.RegionHeld3
import Derived.Deep.CutBlock
import Derived.Deep.DeepCutAuto
namespace Go.Proofs.Ytjbeheegciacpaa
open Go.RowKit
set_option linter.unusedVariables false

/-- An op on a ring. -/
structure Opg where
  kd : Nat
  i : Int
  A : Option Addr
  c : Nat
  bs : List UInt8
def Opg.row (o : Opg) : List Value := [.int .u8 (o.kd : Int), .int .i64 o.i, .slice o.A o.bs.length o.c]
structure OpgRd (w : World) (o : Opg) : Prop where
  kd : o.kd < 256
  i : -9223372036854775808 ≤ o.i ∧ o.i ≤ 9223372036854775807
  bs : RdS w o.A o.bs.length o.c o.bs
/-- The ring that is played by both, behind k steps. -/
def Ply (T : World → Value → Rgs → (Nat → Prop) → Prop) (w : World) (q : Addr) (g : Nat) (P B : Int) (K : Nat → Prop) (k : Nat) (wx : World) : Prop := ∃ s, Duo T w (.pointer (some q)) g s s K wx ∧ Inv19 s k ∧ s.P = P ∧ s.B = B
theorem Ply.of {T : World → Value → Rgs → (Nat → Prop) → Prop} {w : World} {q : Addr} {g : Nat} {P B : Int} {K : Nat → Prop} {k : Nat} {wx : World} {s : Rgs} (h : Duo T w (.pointer (some q)) g s s K wx) (hi : Inv19 s k) (hP : s.P = P) (hB : s.B = B) : Ply T w q g P B K k wx := ⟨s, h, hi, hP, hB⟩
theorem opg_cells {wx : World} {ob : Nat} {v0 v1 v2 : Value} (h : BlkV wx ob 33 [v0, v1, v2]) : wx.cell? ⟨ob, 1, none⟩ = some v1 ∧ wx.cell? ⟨ob, 2, none⟩ = some v2 := ⟨(h.cell 1).trans rfl, (h.cell 2).trans rfl⟩

set_option maxRecDepth 100000 in
set_option maxHeartbeats 1600000 in
theorem ringPlays_walk {T : World → Value → Rgs → (Nat → Prop) → Prop} (hT : Tells19 T) (P B : Int) (A : Option Addr) (cap : Nat) (l : List Opg) (w : World) (hP : (Lit.int .i64 P).wf = true) (hB : (Lit.int .i64 B).wf = true) (hll : l.length ≤ 9223372036854775807) (hr : RdG 3 w A (l.map Opg.row)) (ho : ∀ o ∈ l, OpgRd w o) :
    Calls Try.prog 3 #[.int .i64 P, .int .i64 B, .slice A l.length cap] w fun e w' => e = .returned (.bool true) ∧ Below w.heap.size w w' := by
  have H := Lib.hid hT
  have HAL := Lib.hid (alive_any19 hT w)
  have bP := bounds_i64 hP
  have bB := bounds_i64 hB
  have HR := Lib.hid hr
  have HO := Lib.hid ho
  clear hP hB hr ho
  obtain ⟨n, hn⟩ : ∃ n, n = l.length := ⟨_, rfl⟩
  rw [← hn] at hll ⊢
  have HN := Lib.hid hn
  clear hn
  by_cases h1 : P < 1
  · have HN1 := Lib.hid (fun wx => hT.new_no P B wx (.inl h1))
    clear hT
    go_enter Try.func3, Try.ntmps3
    go_wp2_with (first
      | (go_at_call 7; ((with_reducible refine (Hid.out HAL).mono ?_); rintro e w1 ⟨rfl, hb1⟩; have HB := Lib.hid hb1; clear hb1))
      | (go_at_call 8; ((with_reducible refine (Hid.out HN1 _).mono ?_); rintro e w2 ⟨rfl, HK⟩)))
    go_ret
    exact ⟨rfl, HB.out.trans (HK.mono HB.out.size)⟩
  have h1' : 1 ≤ P := by omega
  clear h1
  by_cases h2 : B < 0
  · have HN1 := Lib.hid (fun wx => hT.new_no P B wx (.inr h2))
    clear hT
    go_enter Try.func3, Try.ntmps3
    go_wp2_with (first
      | (go_at_call 7; ((with_reducible refine (Hid.out HAL).mono ?_); rintro e w1 ⟨rfl, hb1⟩; have HB := Lib.hid hb1; clear hb1))
      | (go_at_call 8; ((with_reducible refine (Hid.out HN1 _).mono ?_); rintro e w2 ⟨rfl, HK⟩)))
    go_ret
    exact ⟨rfl, HB.out.trans (HK.mono HB.out.size)⟩
  have h2' : 0 ≤ B := by omega
  clear h2
  have HN1 := Lib.hid (fun wx => hT.new_ok P B wx h1' h2' bP.2 bB.2)
  have hzr : ∀ wx : World, (zeroValue 30).run Try.prog wx = .ok (.agg #[.int .i64 0, .int .i64 0, .slice none 0 0, .slice none 0 0]) wx := fun wx => by kernel_rfl
  have hzo : ∀ wx : World, (zeroValue 33).run Try.prog wx = .ok (.agg #[.int .u8 0, .int .i64 0, .slice none 0 0]) wx := fun wx => by kernel_rfl
  clear hT
  go_enter Try.func3, Try.ntmps3
  go_wp2_with (first
    | (go_at_call 7; ((with_reducible refine (Hid.out HAL).mono ?_); rintro e w1 ⟨rfl, hb1⟩; have HB := Lib.hid hb1; clear hb1))
    | (go_at_call 8; ((with_reducible refine (Hid.out HN1 _).mono ?_); rintro e w2 ⟨q, F, rfl, HK⟩)))
  have H0 : Hid (Ply T w q w2.heap.size P B (fun _ => False) 0 (w2.alloc (.cells #[.int .i64 P, .int .i64 B, .slice none 0 0, .slice none 0 0] 30))) := Lib.hid (by
    have hk := HK.out
    have hb := HB.out
    have hb2 := hb.trans (hk.2.2.mono hb.size)
    have b1 : Below w2.heap.size w2 (w2.alloc (.cells #[.int .i64 P, .int .i64 B, .slice none 0 0, .slice none 0 0] 30)) := (Below.refl _ _).alloc (Nat.le_refl _) _
    refine ⟨⟨P, B, []⟩, ⟨⟨F, [], .slice none 0 0, .slice none 0 0, H.out.lone.below hk.1 b1, ⟨BlkV.new w2 30 [.int .i64 P, .int .i64 B, .slice none 0 0, .slice none 0 0], World.ownsRow_nil _ _ _ _, World.ownsRow_nil _ _ _ _⟩, .refl _, by simp [Srt], fun k hk2 => ⟨by have := hk.2.1 k hk2; have := hb.size; omega, fun h => h, ?_⟩, ?_⟩, fun k hk2 => hk2.elim, hb2.trans (b1.mono hb2.size)⟩, ⟨h1', h2', by simp [Srt], by simp, by simp [sizD], by simp; omega, by simpa [sizD] using h2'⟩, rfl, rfl⟩
    · have hlt := H.out.lone.low _ _ _ _ hk.1 k hk2
      rintro (h | h | h)
      · omega
      · simp [Value.ownBlock] at h
      · simp [Value.ownBlock] at h
    · rintro k (h | h | h)
      · exact ⟨by rw [h]; exact hb2.size, fun h => h⟩
      · simp [Value.ownBlock] at h
      · simp [Value.ownBlock] at h)
  obtain ⟨g, hg⟩ : ∃ g, g = w2.heap.size := ⟨_, rfl⟩
  rw [← hg] at H0 ⊢
  clear hg HK HB HAL HN1
  go_loopw [9] (fun vi wr => ∃ k : Nat, k ≤ n ∧ k ≤ 60 ∧ vi = .int .i64 k ∧ Hid (Ply T w q g P B (fun _ => False) k wr)) (fun i _ => n - (intOf i).toNat)
  case atStart => exact ⟨0, by omega, by omega, rfl, H0⟩
  case round =>
    clear H0
    obtain ⟨k, hk, hk60, rfl, HS⟩ := hrel
    by_cases hlt : k < n
    · by_cases hk6 : k < 60
      · have hki : (k : Int) < (n : Int) := by omega
        have hk6i : (k : Int) < 60 := by omega
        have hkl : k < l.length := by rw [← HN.out]; exact hlt
        obtain ⟨b, off, rfl, hcs⟩ := HR.out.at_ hkl
        obtain ⟨o, ho⟩ : ∃ o, o = l[k] := ⟨_, rfl⟩
        have hoR := HO.out o (by rw [ho]; exact List.getElem_mem hkl)
        have hsb : Below w.heap.size w wr := by obtain ⟨s, h, _⟩ := HS.out; exact h.below
        have hrow := hcs wr hsb
        rw [← ho] at hrow
        obtain ⟨kd, i, A2, c2, bs⟩ := o
        have hc0 : wr.cell? ⟨b, off + k * 3, none⟩ = some (.int .u8 (kd : Int)) := hrow 0 _ rfl
        have hc1 : wr.cell? ⟨b, off + k * 3 + 1, none⟩ = some (.int .i64 i) := hrow 1 _ rfl
        have hc2 : wr.cell? ⟨b, off + k * 3 + 2, none⟩ = some (.slice A2 bs.length c2) := hrow 2 _ rfl
        have hkd := hoR.kd
        have hib := hoR.i
        have HRB := Lib.hid hoR.bs
        simp only at hkd hib HRB
        obtain ⟨m, hm⟩ : ∃ m, m = bs.length := ⟨_, rfl⟩
        have hmc : m ≤ 9223372036854775807 := by have h1 := HRB.out.2.1; have h2 := HRB.out.2.2.1; simp only [maxLen] at h2; omega
        rw [← hm] at hc2 HRB
        have HM := Lib.hid hm
        clear hcs hrow ho hoR hsb hm hkl
        by_cases h300 : 300 < m
        · have h300i : (300 : Int) < (m : Int) := by omega
          have HEND : Hid (Below w.heap.size w wr) := Lib.hid (by obtain ⟨s, h, _⟩ := HS.out; exact h.below)
          go_wp2
          go_ret
          exact ⟨rfl, HEND.out.alloc HEND.out.size _⟩
        · have h300i : (m : Int) ≤ 300 := by omega
          obtain ⟨t, ht⟩ : ∃ t : Nat, (kd : Int) % 4 = t := ⟨kd % 4, by omega⟩
          have ht4 : t < 4 := by omega
          obtain ⟨s0, hD0, hI0, hsP, hsB⟩ := HS.out
          have HD1 := Lib.hid (hD0.more H.out (.cells #[.int .u8 (kd : Int), .int .i64 i, .slice A2 m c2] 33))
          have HB1 := Lib.hid (BlkV.new wr 33 [.int .u8 (kd : Int), .int .i64 i, .slice A2 m c2])
          have HI0 := Lib.hid hI0
          have HsP := Lib.hid (And.intro hsP hsB)
          have HWZ : Hid (w.heap.size ≤ wr.heap.size) := Lib.hid hD0.below.size
          obtain ⟨ob, hob⟩ : ∃ ob, ob = wr.heap.size := ⟨_, rfl⟩
          have HIL : Hid (s0.L.length ≤ 200 ∧ sizD s0.L + m ≤ 1000000000 ∧ s0.L.length ≤ 201) := Lib.hid ⟨by have := hI0.len; omega, by have := hI0.siz; omega, by have := hI0.len; omega⟩
          have HOFF : Hid (0 < m → ∀ ad, A2 = some ad → ad.block < w.heap.size) := Lib.hid (fun hm ad hA => by
            obtain ⟨b2, off2, hA2, hlt2, _⟩ := HRB.out.2.2.2.2 hm
            rw [hA2] at hA; injection hA with hA; rw [← hA]; exact hlt2)
          rw [← hob] at HD1 HB1
          obtain ⟨W1, hW1⟩ : ∃ W1, W1 = wr.alloc (.cells #[.int .u8 (kd : Int), .int .i64 i, .slice A2 m c2] 33) := ⟨_, rfl⟩
          have HB1' : Hid (BlkV W1 ob 33 [.int .u8 (kd : Int), .int .i64 i, .slice A2 m c2]) := Lib.hid (by rw [hW1, hob]; exact BlkV.new wr _ _)
          rw [← hW1] at HD1
          have HW1 := Lib.hid hW1
          have HOB := Lib.hid hob
          clear hD0 hI0 hsP hsB hW1 hob HB1
          go_upto_block 2 with (fail)
          rw [← HW1.out, ← HOB.out]
          try rw [ht]
          clear ht
          clear hc0 hc1 hc2 HS
          have HK : Hid (∀ s' wx, Duo T w (.pointer (some q)) g s' s' (fun k => False ∨ k = ob) wx → Sam (fun k => False ∨ k = ob) W1 wx → Inv19 s' (k + 1) → s'.P = P → s'.B = B → Ply T w q g P B (fun k => False ∨ k = ob) (k + 1) wx ∧ BlkV wx ob 33 [.int .u8 (kd : Int), .int .i64 i, .slice A2 m c2]) := Lib.hid fun s' wx h1 h2 h3 h4 h5 => ⟨⟨s', h1, h3, h4, h5⟩, HB1'.out.sam h2 (.inr rfl)⟩
          go_cut [70, 72] (fun _ _ wx => Hid (Ply T w q g P B (fun k => False ∨ k = ob) (k + 1) wx ∧ BlkV wx ob 33 [.int .u8 (kd : Int), .int .i64 i, .slice A2 m c2]))
          case first =>
            have hcb1 := (opg_cells HB1'.out).1
            have hcb2 := (opg_cells HB1'.out).2
            by_cases ht2 : t = 2
            · subst ht2
              have HF : Hid (Ply T w q g P B (fun k => False ∨ k = ob) (k + 1) W1 ∧ BlkV W1 ob 33 [.int .u8 (kd : Int), .int .i64 i, .slice A2 m c2]) := Lib.hid (HK.out s0 W1 HD1.out (fun _ _ => rfl) HI0.out.mono HsP.out.1 HsP.out.2)
              clear HK
              go_wp2
              go_meet
              exact HF
            · have htb2 : ((t : Int) == 2) = false := by simp; omega
              by_cases ht3 : t = 3
              · subst ht3
                have P1 := Lib.hid (Duo.forget H.out i (HD1.out.on H.out ((Below.refl _ _).drew)).1 HI0.out.srt HIL.out.2.2 hib)
                have HSam1 : Hid (Sam (fun k => False ∨ k = ob) W1 W1.drew) := Lib.hid (fun _ _ => rfl)
                have HS0 : Hid (W1.drew.cell? ⟨ob, 1, none⟩ = some (.int .i64 i)) := Lib.hid hcb1
                have HIF := Lib.hid (HI0.out.forget i)
                obtain ⟨L3, hL3⟩ : ∃ L3, L3 = forG s0.L i := ⟨_, rfl⟩
                obtain ⟨N3, hN3⟩ : ∃ N3 : Nat, N3 = s0.L.length - (forG s0.L i).length := ⟨_, rfl⟩
                have HR1 : Hid (∀ wx, Duo T w (.pointer (some q)) g ⟨s0.P, s0.B, L3⟩ s0 (fun k => False ∨ k = ob) wx → Calls Try.prog 10 #[.pointer (some ⟨g, 0, none⟩), .int .i64 i] wx fun e w' => e = .returned (.int .i64 (N3 : Int)) ∧ Hid (Duo T w (.pointer (some q)) g ⟨s0.P, s0.B, L3⟩ ⟨s0.P, s0.B, L3⟩ (fun k => False ∨ k = ob) w' ∧ Sam (fun k => False ∨ k = ob) wx w')) := Lib.hid fun wx h => by
                  have := Duo.rforget H.out i h HIL.out.2.2
                  rw [← hL3] at this
                  rw [hN3, ← hL3]
                  exact this
                rw [← hN3, ← hL3] at P1
                rw [← hL3] at HIF
                clear hL3 hN3 htb2 ht2
                go_wp2
                go_region_held3 (fun wx => wx.cell? ⟨ob, 1, none⟩ = some (.int .i64 i))
                  (first | with_reducible exact HS0.out | with_reducible exact HS3.out | with_reducible exact HS4.out)
                  (first
                    | (go_at_call 9; (with_reducible refine (Hid.out P1).mono ?_); rintro e w3 ⟨rfl, HK3⟩; have HS3 := Lib.hid (opg_cells (HB1'.out.sam (HSam1.out.trans HK3.out.2) (.inr rfl))).1; have P2 := Lib.hid (HR1.out w3 HK3.out.1))
                    | (go_at_call 10; (with_reducible refine (Hid.out P2).mono ?_); rintro e w4 ⟨rfl, HK4⟩; have HS4 := Lib.hid (opg_cells (HB1'.out.sam ((HSam1.out.trans HK3.out.2).trans HK4.out.2) (.inr rfl))).1))
                go_wp2
                go_meet
                exact Lib.hid (HK.out _ _ HK4.out.1 ((HSam1.out.trans HK3.out.2).trans HK4.out.2) HIF.out HsP.out.1 HsP.out.2)
              · have htb3 : ((t : Int) == 3) = false := by simp; omega
                have P1 := Lib.hid (Duo.put H.out i A2 m c2 bs (HD1.out.on H.out ((Below.refl _ _).drew)).1 HI0.out.srt HI0.out.P HI0.out.B (HRB.out.below (show Below w.heap.size w W1.drew from (HD1.out.on H.out ((Below.refl _ _).drew)).1.below)) HOFF.out HIL.out.1 HIL.out.2.1 hib)
                have HSam1 : Hid (Sam (fun k => False ∨ k = ob) W1 W1.drew) := Lib.hid (fun _ _ => rfl)
                have HS0 : Hid (W1.drew.cell? ⟨ob, 1, none⟩ = some (.int .i64 i) ∧ W1.drew.cell? ⟨ob, 2, none⟩ = some (.slice A2 m c2)) := Lib.hid ⟨hcb1, hcb2⟩
                have HIF := Lib.hid (HI0.out.put i bs (by rw [← HM.out]; omega))
                obtain ⟨L3, hL3⟩ : ∃ L3, L3 = putG s0.P s0.B s0.L i bs := ⟨_, rfl⟩
                obtain ⟨N3, hN3⟩ : ∃ N3, N3 = putE s0.P s0.B s0.L i bs := ⟨_, rfl⟩
                have HR1 : Hid (∀ wx, Duo T w (.pointer (some q)) g ⟨s0.P, s0.B, L3⟩ s0 (fun k => False ∨ k = ob) wx → Calls Try.prog 12 #[.pointer (some ⟨g, 0, none⟩), .int .i64 i, .slice A2 m c2] wx fun e w' => e = .returned (.int .i64 N3) ∧ Hid (Duo T w (.pointer (some q)) g ⟨s0.P, s0.B, L3⟩ ⟨s0.P, s0.B, L3⟩ (fun k => False ∨ k = ob) w' ∧ Sam (fun k => False ∨ k = ob) wx w')) := Lib.hid fun wx h => by
                  have := Duo.rput H.out i A2 m c2 bs h HI0.out.P HI0.out.B (HRB.out.below h.below) HOFF.out HIL.out.1 HIL.out.2.1
                  rw [← hL3, ← hN3] at this
                  exact this
                rw [← hN3, ← hL3] at P1
                rw [← hL3] at HIF
                clear hL3 hN3 ht2 ht3
                go_wp2
                go_region_held3 (fun wx => wx.cell? ⟨ob, 1, none⟩ = some (.int .i64 i) ∧ wx.cell? ⟨ob, 2, none⟩ = some (.slice A2 m c2))
                  (first | with_reducible exact HS0.out | with_reducible exact HS3.out | with_reducible exact HS4.out)
                  (first
                    | (go_at_call 11; (with_reducible refine (Hid.out P1).mono ?_); rintro e w3 ⟨rfl, HK3⟩; have HS3 := Lib.hid (opg_cells (HB1'.out.sam (HSam1.out.trans HK3.out.2) (.inr rfl))); have P2 := Lib.hid (HR1.out w3 HK3.out.1))
                    | (go_at_call 12; (with_reducible refine (Hid.out P2).mono ?_); rintro e w4 ⟨rfl, HK4⟩; have HS4 := Lib.hid (opg_cells (HB1'.out.sam ((HSam1.out.trans HK3.out.2).trans HK4.out.2) (.inr rfl)))))
                go_wp2
                go_meet
                exact Lib.hid (HK.out _ _ HK4.out.1 ((HSam1.out.trans HK3.out.2).trans HK4.out.2) HIF.out HsP.out.1 HsP.out.2)
          case rest =>
            clear HK HD1 HB1' HI0 HsP HIL HOFF HW1 HOB HM h300 h300i
            obtain ⟨⟨s, hD, hI, hsP, hsB⟩, hBo⟩ := hcut.out
            obtain ⟨F, D, vI, vB, h1, h2, h3, h4, h5, h6⟩ := hD.ex
            obtain ⟨AI, cI, hvI⟩ := own_formN h2.own
            obtain ⟨AB, cB, hvB⟩ := own_formN h2.owb
            obtain ⟨N, hN⟩ : ∃ N, N = D.length := ⟨_, rfl⟩
            rw [← hN] at hvI hvB
            subst hvI; subst hvB
            have hNL : N = s.L.length := by rw [hN]; exact h3.length_eq
            have hN61 : N ≤ 61 := by have := hI.len; omega
            have hNP : (N : Int) ≤ P := by have := hI.lenP; rw [hsP] at this; omega
            have hco := (opg_cells hBo).1
            obtain ⟨Z, hZ⟩ : ∃ Z, Z = sizD s.L := ⟨_, rfl⟩
            have hZB : (Z : Int) ≤ B := by have := hI.sizB; rw [hsB] at this; omega
            have hZ9 : sizD s.L ≤ 1000000000 := by have := hI.siz; omega
            have hZD : sizD D = Z := by rw [hZ]; exact sizD_perm h3
            have HI := Lib.hid (And.intro hI (And.intro hsP hsB))
            have HNN := Lib.hid (And.intro hN hNL)
            have HZZ := Lib.hid (And.intro hZ (And.intro hZ9 hZD))
            have HPE := Lib.hid (And.intro h3 h4)
            -- what is told in every world that comes later
            have HT5 : Hid (∀ wx, Below wc.heap.size wc wx → Duo T w (.pointer (some q)) g s s (fun k => False ∨ k = ob) wx ∧ T wx (.pointer (some q)) s F ∧ RRg 0 g s.P s.B D (.slice AI N cI) (.slice AB N cB) wx ∧ wx.cell? ⟨ob, 1, none⟩ = some (.int .i64 i)) := Lib.hid fun wx hb =>
              ⟨(hD.on H.out hb).1, H.out.lone.below h1 hb, h2.below hb, (opg_cells (hBo.sam (hD.on H.out hb).2 (.inr rfl))).1⟩
            have HLEN : Hid (∀ wx, Below wc.heap.size wc wx → ∀ q', Calls Try.prog 15 #[.pointer (some q)] (wx.drewN q') fun e w' => e = .returned (.int .i64 (N : Int)) ∧ ∃ m, w' = (wx.drewN q').drewN m) := Lib.hid fun wx hb q' => by
              have := H.out.len (wx.drewN q') q s F (HT5.out _ (below_drewN hb q')).2.1 (by omega)
              rw [← HNN.out.2] at this; exact this
            have HSIZ : Hid (∀ wx, Below wc.heap.size wc wx → ∀ q', Calls Try.prog 16 #[.pointer (some q)] (wx.drewN q') fun e w' => e = .returned (.int .i64 (Z : Int)) ∧ ∃ m, w' = (wx.drewN q').drewN m) := Lib.hid fun wx hb q' => by
              have := H.out.size (wx.drewN q') q s F (HT5.out _ (below_drewN hb q')).2.1 (by omega) hZ9
              rw [← HZZ.out.1] at this; exact this
            have HRSZ : Hid (∀ wx, Below wc.heap.size wc wx → ∀ q', Calls Try.prog 17 #[.pointer (some ⟨g, 0, none⟩)] (wx.drewN q') fun e w' => e = .returned (.int .i64 (Z : Int)) ∧ wx.drewN q' = w') := Lib.hid fun wx hb q' => by
              have := rsize_any19 0 g s.P s.B D _ _ (wx.drewN q') (HT5.out _ (below_drewN hb q')).2.2.1 (by omega) (by rw [hZD, hZ]; exact hZ9)
              rw [HZZ.out.2.2] at this; exact this
            have HRAT : Hid (∀ wx, Below wc.heap.size wc wx → Calls Try.prog 14 #[.pointer (some ⟨g, 0, none⟩), .int .i64 i] wx fun e w' => e = .returned (.int .i64 (atL (D.map (·.1)) i)) ∧ wx = w') := Lib.hid fun wx hb =>
              rat_any19 0 g s.P s.B D _ _ i wx (HT5.out _ hb).2.2.1 (by omega)
            have hIDX := Lib.hid (fun wx hb => H.out.indices wx q s F (HT5.out wx hb).2.1 (by omega))
            have hSOR := Lib.hid (fun wx hb => rsorted_any19 g s.P s.B D s.L _ _ wx (HT5.out wx hb).2.2.1 h3 h4 (by omega))
            rw [← hNL] at hIDX hSOR
            have HG2 : Hid (∀ wx, Below wc.heap.size wc wx → wx.cell? ⟨g, 2, none⟩ = some (.slice AI N cI) ∧ wx.cell? ⟨g, 3, none⟩ = some (.slice AB N cB)) := Lib.hid fun wx hb => ⟨(HT5.out wx hb).2.2.1.c2, (HT5.out wx hb).2.2.1.c3⟩
            have HROW : Hid (∀ z (hz : z < D.length), ∃ gB, AB = some ⟨gB, 0, none⟩ ∧ ∀ wx, Below wc.heap.size wc wx → wx.cell? ⟨gB, z, none⟩ = some (.string (txt D[z].2))) := Lib.hid fun z hz => by
              obtain ⟨gB, c', hv, _, hlt, hc⟩ := own_txts h2.owb (by omega)
              injection hv with e1 e2 e3
              refine ⟨gB, e1, fun wx hb => ?_⟩
              have h7 := hc z (by omega)
              have e : (D.map (·.2)).getD z [] = D[z].2 := by simp [List.getD, hz]
              rw [e] at h7
              exact (hb.cell (p := ⟨gB, z, none⟩) hlt).trans h7
            clear h2 h5 h6 hBo hcut hN hNL hZ hZD hZ9 h1 hI hsP hsB
            have hcase : (∃ b2, (i, b2) ∈ s.L) ∨ i ∉ s.L.map (·.1) := by
              by_cases hin : i ∈ s.L.map (·.1)
              · obtain ⟨⟨i2, b2⟩, hm2, hi2⟩ := List.mem_map.1 hin
                exact .inl ⟨b2, by rw [← hi2]; exact hm2⟩
              · exact .inr hin
            have hNPb : decide (P < (N : Int)) = false := by simp; omega
            have hZBb : decide (B < (Z : Int)) = false := by simp; omega
            clear h3 h4 hD hzr hzo hkd hib HRB bP bB ht4 hmc HO HWZ hk60 hk hki hk6i hll h1' h2' HR
            rcases hcase with ⟨b2, hm2⟩ | hin
            case' inl => (
              have G1 := Lib.hid (H.out.get_yes wc q s F i b2 (HT5.out wc (Below.refl _ _)).2.1 HPE.out.2 (by have := HNN.out; omega) hm2)
              have hinD : i ∈ D.map (·.1) := (idx_perm HPE.out.1).mem_iff.2 (List.mem_map.2 ⟨_, hm2, rfl⟩)
              obtain ⟨z, hz1, hz2, hz3⟩ := atL_get hinD
              rw [idx_len] at hz2
              rw [getD_idx hz2] at hz3
              have hDz : D[z] = (i, b2) := srt_uniq HPE.out.2 (HPE.out.1.mem_iff.1 (List.getElem_mem hz2)) hm2 hz3
              obtain ⟨gB, hAB, hrow⟩ := HROW.out z hz2
              rw [hDz] at hrow
              subst hAB
              have HRW := Lib.hid hrow
              rw [hz1] at HRAT
              have hzN : z < N := by rw [HNN.out.1]; exact hz2
              have hzi : (z : Int) < (N : Int) := by omega
              have hz0 : (0 : Int) ≤ (z : Int) := by omega
              clear hm2 hinD hz1 hz2 hz3 hDz hrow HROW
              go_wp2_with (first
                | (go_at_call 13; ((with_reducible refine (Hid.out G1).mono ?_); rintro e w5 ⟨A5, c5, rfl, HK5⟩; have HB5 := Lib.hid HK5.out.2; have hco5 := (HT5.out w5 HB5.out).2.2.2; have hg2 := (HG2.out w5 HB5.out).1; have hg3 := (HG2.out w5 HB5.out).2; have hrw := HRW.out w5 HB5.out; have hcv : ∀ q', (convert 31 9 (.slice A5 b2.length c5)).run Try.prog (w5.drewN q') = .ok (.string (txt b2)) (w5.drewN q') := fun q' => run_conv (show RdS (w5.drewN q') A5 b2.length c5 b2 from RdS.of_own HK5.out.1) 31 9 5 Try.underlying31 Try.underlying5 Try.underlying9))
                | (go_at_call 14; ((with_reducible refine (Hid.out HRAT _ HB5.out).mono ?_); rintro e w6 ⟨rfl, rfl⟩)))
              go_big_quiet ((first
                | (go_at_call 15; exact Calls.quiet_of (HLEN.out _ HB5.out _))
                | (go_at_call 16; exact Calls.quiet_of (HSIZ.out _ HB5.out _))
                | (go_at_call 17; exact Calls.quiet_of_same ((HRSZ.out _ HB5.out _).mono fun _ _ ⟨h, h2⟩ => ⟨h, h2.symm⟩))))
              have HB6 : Hid (Below wc.heap.size wc (w5.drewN nq)) := Lib.hid (below_drewN HB5.out nq)
              obtain ⟨w6, hw6⟩ : ∃ w6, w6 = w5.drewN nq := ⟨_, rfl⟩
              rw [← hw6] at HB6 ⊢
              clear hw6 hco5 hg2 hg3 hrw hcv HB5)
            case' inr => (
              have G1 := Lib.hid (H.out.get_no wc q s F i (HT5.out wc (Below.refl _ _)).2.1 HPE.out.2 (by have := HNN.out; omega) hin)
              have hinD : i ∉ D.map (·.1) := fun h => hin ((idx_perm HPE.out.1).mem_iff.1 h)
              rw [atL_no hinD] at HRAT
              clear hin hinD HROW
              go_wp2_with (first
                | (go_at_call 13; ((with_reducible refine (Hid.out G1).mono ?_); rintro e w5 ⟨A5, n5, c5, rfl, HK5⟩; have HB5 := Lib.hid HK5.out; have hco5 := (HT5.out w5 HB5.out).2.2.2; have hg2 := (HG2.out w5 HB5.out).1; have hg3 := (HG2.out w5 HB5.out).2))
                | (go_at_call 14; ((with_reducible refine (Hid.out HRAT _ HB5.out).mono ?_); rintro e w6 ⟨rfl, rfl⟩)))
              go_big_quiet ((first
                | (go_at_call 15; exact Calls.quiet_of (HLEN.out _ HB5.out _))
                | (go_at_call 16; exact Calls.quiet_of (HSIZ.out _ HB5.out _))
                | (go_at_call 17; exact Calls.quiet_of_same ((HRSZ.out _ HB5.out _).mono fun _ _ ⟨h, h2⟩ => ⟨h, h2.symm⟩))))
              have HB6 : Hid (Below wc.heap.size wc (w5.drewN nq)) := Lib.hid (below_drewN HB5.out nq)
              obtain ⟨w6, hw6⟩ : ∃ w6, w6 = w5.drewN nq := ⟨_, rfl⟩
              rw [← hw6] at HB6 ⊢
              clear hw6 hco5 hg2 hg3 HB5)
            all_goals (
              clear HRAT HRSZ HSIZ HLEN HG2 HZZ HPE
              go_wp2_with (first
                | (go_at_call 18; ((with_reducible refine (Hid.out hIDX _ HB6.out).mono ?_); rintro e w7 ⟨A7, c7, rfl, HK7⟩; have HB7 := Lib.hid (HB6.out.trans (HK7.out.2.mono HB6.out.size))))
                | (go_at_call 19; ((with_reducible refine (Hid.out hSOR _ HB7.out).mono ?_); rintro e w8 ⟨A8, c8, rfl, HO8, hb8⟩; have HB8 := Lib.hid (HB7.out.trans (hb8.mono HB7.out.size)); have HX := Lib.hid (HK7.out.1.below hb8); have HY := Lib.hid (RdJ.of_own HO8); clear HO8 hb8)))
              clear hIDX hSOR
              have hj61 : N ≤ 61 := hN61
              go_loopw [16] (fun vj wx => ∃ j : Nat, j ≤ N ∧ vj = .int .i64 j ∧ Hid (∃ qq, wx = w8.drewN qq)) (fun j _ => N - (intOf j).toNat)
              case atStart => exact ⟨0, by omega, rfl, Lib.hid ⟨0, rfl⟩⟩
              case round =>
                obtain ⟨j, hj, rfl, HQ⟩ := hrel
                by_cases hjN : j < N
                · have hji : (j : Int) < (N : Int) := by omega
                  obtain ⟨b7, o7, rfl, hl7, hc7⟩ := HX.out.2 (by omega)
                  obtain ⟨b8, o8, rfl, hl8, hc8⟩ := HY.out.2 (by omega)
                  have hx7 : wr.cell? ⟨b7, o7 + j, none⟩ = some (.int .i64 ((s.L.map (·.1)).getD j 0)) := by obtain ⟨qq, rfl⟩ := HQ.out; exact hc7 j hjN
                  have hx8 : wr.cell? ⟨b8, o8 + j, none⟩ = some (.int .i64 ((s.L.map (·.1)).getD j 0)) := by obtain ⟨qq, rfl⟩ := HQ.out; exact hc8 j hjN
                  obtain ⟨y, hy⟩ : ∃ y, y = (s.L.map (·.1)).getD j 0 := ⟨_, rfl⟩
                  rw [← hy] at hx7 hx8
                  clear hc7 hc8 hy hl7 hl8
                  go_wp2
                  go_quiet (fail)
                  have HQ2 : Hid (∃ qq, wr.drewN nq = w8.drewN qq) := Lib.hid (by obtain ⟨qq, hq⟩ := HQ.out; exact ⟨qq + nq, by rw [hq, World.drewN_drewN]⟩)
                  go_wp2
                  go_roundw
                  case rel => exact ⟨j + 1, by omega, by go_num, HQ2⟩
                  case measure => simp [intOf]; omega
                · obtain rfl : j = N := by omega
                  have HF : Hid (Ply T w q g P B (fun _ => False) (k + 1) wr) := Lib.hid (by
                    obtain ⟨qq, hq⟩ := HQ.out
                    have hbq := below_drewN HB8.out qq
                    rw [← hq] at hbq
                    exact Ply.of ((HT5.out _ hbq).1.less (fun _ h => h.elim)) HI.out.1 HI.out.2.1 HI.out.2.2)
                  clear HT5 HX HY HQ HB8 HB7 HB6
                  go_wp2
                  go_roundw
                  case rel => exact ⟨k + 1, by omega, by omega, by go_num, HF⟩
                  case measure => simp [intOf]; omega)
      · obtain rfl : k = 60 := by omega
        have hki : (60 : Int) < (n : Int) := by omega
        go_wp2
        go_ret
        exact ⟨rfl, by obtain ⟨s, h, _⟩ := HS.out; exact h.below⟩
    · obtain rfl : k = n := by omega
      go_wp2
      go_ret
      exact ⟨rfl, by obtain ⟨s, h, _⟩ := HS.out; exact h.below⟩
end Go.Proofs.Ytjbeheegciacpaa
