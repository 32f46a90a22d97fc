/- What the document's answers for layer 19 (tenailleref19) answer: all indices, rising. No statement is proved here. -/
import Derived.Test.YtjbeheegciacpaaRngR5
import Derived.StillTailTactics
namespace Go.Proofs.Ytjbeheegciacpaa
open Go.RowKit
set_option linter.unusedVariables false

/-- All indices, their walk under way: a ring of what is left, and what came out so far. -/
def Sor19 (w : World) (g : Nat) (L0 : List Pck) (n : Nat) (v : Value) (wx : World) : Prop :=
  ∃ (D L : List Pck) (vI vB : Value) (xs : List Int), RRg 0 g 0 0 D vI vB wx ∧ D.Perm L ∧ Srt L ∧ xs.length = n ∧ xs ++ L.map (·.1) = L0.map (·.1) ∧ wx.ownsRow w.heap.size 2 1 v n (icells xs) ∧ Below w.heap.size w wx ∧ (∀ k, v.ownBlock = some k → vI.ownBlock ≠ some k)

theorem Sor19.put {w wr w2 : World} {g n : Nat} {D : List Pck} {vI vB v v1 : Value} {xs : List Int} {y : Int} (hr : RRg 0 g 0 0 D vI vB wr) (hg : w.heap.size ≤ g) (ho : wr.ownsRow w.heap.size 2 1 v n (icells xs)) (hb : Below w.heap.size w wr) (hd : ∀ k, v.ownBlock = some k → vI.ownBlock ≠ some k)
    (ho2 : w2.ownsRow w.heap.size 2 1 v1 (n + 1) (icells xs ++ [.int .i64 y])) (hgr : (wr.alloc (.cells #[.int .i64 y] 2)).grownBy w2 v.ownBlock) (hnew : v1.ownBlock = v.ownBlock ∨ v1.ownBlock = some (wr.alloc (.cells #[.int .i64 y] 2)).heap.size) :
    RRg 0 g 0 0 D vI vB w2 ∧ Below w.heap.size w w2 ∧ (∀ k, v1.ownBlock = some k → vI.ownBlock ≠ some k) := by
  have b1 : Below wr.heap.size wr (wr.alloc (.cells #[.int .i64 y] 2)) := (Below.refl _ _).alloc (Nat.le_refl _) _
  have f2 : Fr (fun k => v.ownBlock = some k) (wr.alloc (.cells #[.int .i64 y] 2)) w2 := .of_grown hgr (fun p hp => hp)
  have h1 := hr.below b1
  have bb := hb.trans (b1.mono hb.size)
  refine ⟨h1.lone (fun k hk => f2.keep k (h1.lows k hk) ?_), bb.grown hgr bb.size (fun p hp => (ho.lt p hp).1), fun k hk => ?_⟩
  · intro e
    rcases hk with rfl | hk | hk
    · exact own_ne ho hr.blk (show (2 : TypeId) ≠ 30 by decide) e
    · exact hd k e hk
    · obtain ⟨c1, f1, hc1⟩ := own_type ho e
      obtain ⟨c3, f3, hc3⟩ := own_type hr.owb hk
      rw [hc1] at hc3
      injection hc3 with hc3
      injection hc3 with _ hc3
      exact ne_e64st hc3
  · rcases hnew with e | e
    · exact hd k (by rw [← e]; exact hk)
    · rw [e] at hk
      injection hk with hk
      intro e2
      have := (hr.own.lt k e2).2
      rw [← hk] at this
      simp at this
      omega

set_option maxRecDepth 100000 in
theorem rsorted_any19 (g : Nat) (P B : Int) (D L : List Pck) (vI vB : Value) (w : World) (h : RRg 0 g P B D vI vB w) (hp : D.Perm L) (hs : Srt L) (hl : D.length ≤ 201) :
    Calls Try.prog 19 #[.pointer (some ⟨g, 0, none⟩)] w fun e w' => ∃ A c, e = .returned (.slice A L.length c) ∧ w'.ownsRow w.heap.size 2 1 (.slice A L.length c) L.length (icells (L.map (·.1))) ∧ Below w.heap.size w w' := by
  obtain ⟨AI, cI, hvI⟩ := own_formN h.own
  obtain ⟨AB, cB, hvB⟩ := own_formN h.owb
  obtain ⟨N, hN⟩ : ∃ N, N = D.length := ⟨_, rfl⟩
  rw [← hN] at hvI hvB
  subst hvI; subst hvB
  have hc2 := h.c2
  have hc3 := h.c3
  have hLl : L.length ≤ 201 := by rw [← hp.length_eq]; exact hl
  have hNL : N = L.length := by rw [hN]; exact hp.length_eq
  have b0 : Below w.heap.size w (w.alloc (.cells #[.int .i64 0, .int .i64 0, .slice AI N cI, .slice AB N cB] 30)).drew := ((Below.refl _ _).alloc (Nat.le_refl _) _).drew
  have H0 : Hid (Sor19 w w.heap.size L 0 (.slice none 0 0) (w.alloc (.cells #[.int .i64 0, .int .i64 0, .slice AI N cI, .slice AB N cB] 30)).drew) := Lib.hid
    ⟨D, L, .slice AI N cI, .slice AB N cB, [], ⟨(BlkV.new w 30 [.int .i64 0, .int .i64 0, .slice AI N cI, .slice AB N cB]).drew, own_keep h.own b0, own_keep h.owb b0⟩, hp, hs, rfl, by simp, by simpa [icells] using World.ownsRow_nil _ _ _ _, b0, fun k hk => by simp [Value.ownBlock] at hk⟩
  have hc0b : (zeroValue 30).run Try.prog w.drew = .ok (.agg #[.int .i64 0, .int .i64 0, .slice none 0 0, .slice none 0 0]) w.drew := by kernel_rfl
  obtain ⟨L0, hL0⟩ : ∃ L0, L0 = L := ⟨_, rfl⟩
  rw [← hL0] at H0 hLl ⊢
  clear hL0
  clear h hp hs hN hNL hl b0
  go_enter Try.func19, Try.ntmps19
  go_wp2
  have hgz : Hid (w.heap.size ≤ w.heap.size) := Lib.hid (Nat.le_refl _)
  obtain ⟨g2, hg2⟩ : ∃ g2, g2 = w.heap.size := ⟨_, rfl⟩
  have HG2 : Hid (w.heap.size ≤ g2) := Lib.hid (by rw [hg2]; exact Nat.le_refl _)
  have HGE := Lib.hid hg2
  go_upto_region 2 with (fail)
  go_cut [4] (fun u wx => u = .pointer (some ⟨g2, 0, none⟩) ∧ Hid (Sor19 w g2 L0 0 (.slice none 0 0) wx))
  case first =>
    clear hg2
    go_region_law (fail)
    all_goals (go_wp2_with fail)
    all_goals go_meet
    all_goals exact ⟨by rw [HGE.out], by rw [HGE.out]; exact H0⟩
  case rest =>
    obtain ⟨rfl, HS⟩ := hcut
    clear H0 hg2 HGE hgz hc2 hc3 hc0b
    go_wp2
    go_loopw [3] (fun v wr => ∃ (n c : Nat) (A : Option Addr), n ≤ 201 ∧ v = .slice A n c ∧ Hid (Sor19 w g2 L0 n (.slice A n c) wr)) (fun _ wr => lenAt wr g2)
    case atStart => exact ⟨0, 0, none, by omega, rfl, HS⟩
    case round =>
      clear HS
      obtain ⟨n, c, A, hn, rfl, HK⟩ := hrel
      obtain ⟨D2, L2, vI, vB, xs, hr, hp, hs, hxl, hxs, ho, hb, hd⟩ := HK.out
      clear HK
      obtain ⟨A5, c5, hv⟩ := own_formN hr.own
      obtain ⟨M, hM⟩ : ∃ M, M = D2.length := ⟨_, rfl⟩
      rw [← hM] at hv
      subst hv
      have hc2 := hr.c2
      have hlen : lenAt wr g2 = M := by simp [lenAt, hc2]
      have HLEN := Lib.hid hlen
      have hML : M = L2.length := by rw [hM]; exact hp.length_eq
      have hnM : n + M = L0.length := by have := congrArg List.length hxs; simp at this; omega
      cases L2 with
      | nil =>
        have hM0 : M = 0 := by simpa using hML
        subst hM0
        have hxe : xs = L0.map (·.1) := by simpa using hxs
        have hne : n = L0.length := by omega
        have HFIN : Hid (wr.ownsRow w.heap.size 2 1 (.slice A L0.length c) L0.length (icells (L0.map (·.1))) ∧ Below w.heap.size w wr ∧ n = L0.length) := Lib.hid (by rw [← hxe, ← hne]; exact ⟨ho, hb, rfl⟩)
        clear hM hML hlen hr hp hs hxl hxs ho hb hd hnM hxe hne
        go_wp2
        go_ret
        exact ⟨A, c, by rw [HFIN.out.2.2]; rfl, HFIN.out.1, HFIN.out.2.1⟩
      | cons x r =>
        obtain ⟨m, hm1, hm2, hm3, hm4⟩ := lst_perm hp hs
        have hmM : m < M := by omega
        have HL1 := Lib.hid (rleast_any19 0 g2 0 0 D2 _ vB wr hr (by omega))
        rw [hm1] at HL1
        obtain ⟨k0, c', hv, _, _, hcell⟩ := own_ints hr.own (by omega)
        injection hv with e1 e2 e3
        subst e1
        have hcm := hcell m hm2
        rw [getD_idx hm2, hm3] at hcm
        obtain ⟨y, hy⟩ : ∃ y, y = x.1 := ⟨_, rfl⟩
        rw [← hy] at hcm
        have hmi : (m : Int) < (M : Int) := by omega
        have hM0 : 0 < M := by omega
        have HY := Lib.hid hy
        have HM := Lib.hid hM
        have HR := Lib.hid hr
        have HP := Lib.hid hp
        have HSR := Lib.hid hs
        have HX := Lib.hid (And.intro hxl hxs)
        have HO := Lib.hid ho
        have HB := Lib.hid hb
        have HDJ := Lib.hid hd
        have HMP := Lib.hid hm4
        have hC : ∀ q, (wr.drewN q).cell? ⟨g2, 2, none⟩ = some (.slice (some ⟨k0, 0, none⟩) M c5) ∧ (wr.drewN q).cell? ⟨k0, m, none⟩ = some (.int .i64 y) := fun q => ⟨hc2, hcm⟩
        have HC := Lib.hid hC
        have HML := Lib.hid hm2
        clear hcell hy hM hML e2 e3 hr hp hs hxl hxs ho hb hd hm1 hm2 hm3 hm4 hlen hC
        go_wp2_with (first
          | (go_at_call 22; ((with_reducible refine (Hid.out HL1).mono ?_); rintro e w5 ⟨rfl, q5, hq5⟩; have hc5 := (HC.out q5).1; have hc6 := (HC.out q5).2; rw [← hq5] at hc5 hc6; have HR5 := Lib.hid (HR.out.drewN q5); have HO5 := Lib.hid (own_keep HO.out (show Below wr.heap.size wr (wr.drewN q5) from ⟨rfl, rfl, rfl, Nat.le_refl _, fun _ _ => rfl⟩)); have HB5 := Lib.hid (below_drewN HB.out q5); rw [← hq5] at HR5 HO5 HB5; clear hq5))
          | (at_builtin; refine wpList_appV rfl (.tmp 24) (.tmp 32) e64R rfl w.heap.size (.slice A n c) n (icells xs) rfl (HO5.out.alloc _) w5.heap.size rfl [.int .i64 y] rfl (by simp [Value.oneCell']) (BlkV.new w5 2 [.int .i64 y]) (by omega) (by have := HB5.out.size; simp; omega) ?_; intro v1 w6 hown hg hnew; obtain ⟨A6, c6, hv6⟩ := own_formN hown; subst hv6; have K6 := Lib.hid (Sor19.put HR5.out HG2.out HO5.out HB5.out HDJ.out hown hg hnew); have HO6 := Lib.hid hown; have HDR := Lib.hid (rdrop_any19 0 g2 0 0 D2 _ vB m w6 K6.out.1 (by have := HM.out; omega) HML.out); clear hown hg hnew)
          | (go_at_call 23; ((with_reducible refine (Hid.out HDR).mono ?_); rintro e w7 ⟨rfl, HK7⟩; have HK8 := Lib.hid HK7; clear HK7)))
        have HN7 : Hid (Sor19 w g2 L0 (n + 1) (.slice A6 (n + 1) c6) w7 ∧ lenAt w7 g2 = M - 1) := Lib.hid (by
          obtain ⟨vI2, vB2, hr7, hg7⟩ := HK8.out
          have hle : (D2.eraseIdx m).length = M - 1 := by rw [List.length_eraseIdx_of_lt HML.out, ← HM.out]
          have f7 : Fr (fun k => k = g2) w6 w7 := .of_grown hg7 (fun p hp => by injection hp with hp; exact hp.symm)
          have hne := own_ne HO6.out K6.out.1.blk (show (2 : TypeId) ≠ 30 by decide)
          refine ⟨⟨_, r, vI2, vB2, xs ++ [y], hr7.low, HMP.out, (List.pairwise_cons.1 HSR.out).2, by rw [List.length_append, HX.out.1]; rfl, ?_, ?_, ?_, ?_⟩, ?_⟩
          · rw [← HX.out.2, HY.out]; simp
          · rw [icells_snoc]
            exact own_fr HO6.out f7 (fun k hk e => hne (by rw [hk, e]))
          · exact K6.out.2.1.grown hg7 K6.out.2.1.size (fun p hp => by injection hp with hp; rw [← hp]; exact HG2.out)
          · intro k hk e
            have h1 := (HO6.out.lt k hk).2
            have h2 := (hr7.own.lt k e).1
            omega
          · obtain ⟨A7, c7, hv7⟩ := own_formN hr7.own
            subst hv7
            have := hr7.c2
            unfold lenAt
            rw [this, hle])
        go_roundw
        case rel => exact ⟨n + 1, c6, A6, by omega, rfl, Lib.hid HN7.out.1⟩
        case measure => rw [HN7.out.2, HLEN.out]; omega
end Go.Proofs.Ytjbeheegciacpaa
