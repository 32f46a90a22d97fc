/- Contracts of package remb: who is next, a closure over what is left. No statement is proved here. -/
import Derived.Test.YtehnnnhbgjfdgaaRemP2
import Derived.Test.YtehnnnhbgjfdgaaRemR2
import Derived.Deep.RegionLaw
namespace Go.Proofs.Ytehnnnhbgjfdgaa
open Go.RowKit
set_option linter.unusedVariables false

/-- What the closure has captured: what is looked at (q1), what is left (q2), the layers (q3; their row is block p). -/
structure Nx25 (w : World) (q1 q2 q3 p : Nat) (A : Option Addr) (m ca n : Nat) (x : Int) (O : List Int) (wx : World) : Prop where
  b1 : BlkV wx q1 23 [.slice A m ca]
  b2 : BlkV wx q2 22 [.int .u64 x]
  b3 : BlkV wx q3 24 [.slice (some ⟨p, 0, none⟩) n n]
  out : OutR w p 3 O wx
  own2 : w.heap.size ≤ q2
  d12 : q1 ≠ q2
  d32 : q3 ≠ q2
  dp2 : p ≠ q2
  d1p : q1 ≠ p
  d3p : q3 ≠ p
section
variable {w wx : World} {q1 q2 q3 p m ca n : Nat} {A : Option Addr} {x : Int} {O : List Int}
theorem Nx25.drewN (h : Nx25 w q1 q2 q3 p A m ca n x O wx) (q : Nat) : Nx25 w q1 q2 q3 p A m ca n x O (wx.drewN q) :=
  ⟨h.b1, h.b2, h.b3, h.out.drewN q, h.own2, h.d12, h.d32, h.dp2, h.d1p, h.d3p⟩
theorem Nx25.drew (h : Nx25 w q1 q2 q3 p A m ca n x O wx) : Nx25 w q1 q2 q3 p A m ca n x O wx.drew := h.drewN 1
theorem Nx25.setx (h : Nx25 w q1 q2 q3 p A m ca n x O wx) (y : Int) : Nx25 w q1 q2 q3 p A m ca n y O (wx.setCell ⟨q2, 0, none⟩ (.int .u64 y)) :=
  ⟨h.b1.far (p := ⟨q2, 0, none⟩) h.d12 _, h.b2.set_ 0 _, h.b3.far (p := ⟨q2, 0, none⟩) h.d32 _, ⟨h.out.blk.far (p := ⟨q2, 0, none⟩) h.dp2 _, h.out.below.setCell (p := ⟨q2, 0, none⟩) h.own2 _, h.out.own⟩, h.own2, h.d12, h.d32, h.dp2, h.d1p, h.d3p⟩
theorem Nx25.setk (h : Nx25 w q1 q2 q3 p A m ca n x O wx) (k : Nat) (y : Int) : Nx25 w q1 q2 q3 p A m ca n x (O.set k y) (wx.setCell ⟨p, k, none⟩ (.int .i64 y)) :=
  ⟨h.b1.far (p := ⟨p, k, none⟩) h.d1p _, h.b2.far (p := ⟨p, k, none⟩) (fun e => h.dp2 e.symm) _, h.b3.far (p := ⟨p, k, none⟩) h.d3p _, h.out.set_ y, h.own2, h.d12, h.d32, h.dp2, h.d1p, h.d3p⟩
theorem Nx25.c1 (h : Nx25 w q1 q2 q3 p A m ca n x O wx) : wx.cell? ⟨q1, 0, none⟩ = some (.slice A m ca) := h.b1.cell 0
theorem Nx25.c2 (h : Nx25 w q1 q2 q3 p A m ca n x O wx) : wx.cell? ⟨q2, 0, none⟩ = some (.int .u64 x) := h.b2.cell 0
theorem Nx25.c3 (h : Nx25 w q1 q2 q3 p A m ca n x O wx) : wx.cell? ⟨q3, 0, none⟩ = some (.slice (some ⟨p, 0, none⟩) n n) := h.b3.cell 0
theorem Nx25.f2 (h : Nx25 w q1 q2 q3 p A m ca n x O wx) : wx.frozen? ⟨q2, 0, none⟩ = false := h.b2.frozen 0
end
theorem bel25 (w : World) (m : Nat) : Below w.heap.size w (w.drewN m) := ⟨rfl, rfl, rfl, Nat.le_refl _, fun _ _ => rfl⟩
/-- Who is next among the first k. -/
def Scn (x : Int) (C : List (List Int)) (O : List Int) (k b : Nat) (f : Bool) : Prop :=
  (f = false → b = 0 ∧ ∀ i, i < k → ¬ Fit x C O i) ∧ (f = true → b < k ∧ Fit x C O b ∧ (∀ i, i < k → Fit x C O i → O.getD b 0 ≤ O.getD i 0) ∧ ∀ i, i < b → Fit x C O i → O.getD b 0 < O.getD i 0)
theorem scn_start (x : Int) (C : List (List Int)) (O : List Int) : Scn x C O 0 0 false := ⟨fun _ => ⟨rfl, fun i h => by omega⟩, fun h => by cases h⟩
theorem scn_skip {x : Int} {C : List (List Int)} {O : List Int} {k b : Nat} {f : Bool} (h : Scn x C O k b f) (hn : Fit x C O k → f = true ∧ O.getD b 0 ≤ O.getD k 0) : Scn x C O (k + 1) b f := by
  refine ⟨fun e => ⟨(h.1 e).1, fun i hi hf => ?_⟩, fun e => ⟨by have := (h.2 e).1; omega, (h.2 e).2.1, fun i hi hf => ?_, (h.2 e).2.2.2⟩⟩
  · rcases Nat.lt_or_ge i k with h1 | h1
    · exact (h.1 e).2 i h1 hf
    · obtain rfl : i = k := by omega
      have := (hn hf).1
      rw [e] at this
      cases this
  · rcases Nat.lt_or_ge i k with h1 | h1
    · exact (h.2 e).2.2.1 i h1 hf
    · obtain rfl : i = k := by omega
      exact (hn hf).2
theorem scn_take {x : Int} {C : List (List Int)} {O : List Int} {k b : Nat} {f : Bool} (h : Scn x C O k b f) (hf : Fit x C O k) (hn : f = true → O.getD k 0 < O.getD b 0) : Scn x C O (k + 1) k true := by
  refine ⟨fun e => (by cases e), fun _ => ⟨by omega, hf, fun i hi hfi => ?_, fun i hi hfi => ?_⟩⟩
  · rcases Nat.lt_or_ge i k with h1 | h1
    · cases f with
      | false => exact absurd hfi ((h.1 rfl).2 i h1)
      | true =>
        have := (h.2 rfl).2.2.1 i h1 hfi
        have := hn rfl
        omega
    · obtain rfl : i = k := by omega
      exact Int.le_refl _
  · cases f with
    | false => exact absurd hfi ((h.1 rfl).2 i hi)
    | true =>
      have := (h.2 rfl).2.2.1 i hi hfi
      have := hn rfl
      omega
theorem scn_yes {x : Int} {C : List (List Int)} {O : List Int} {k b : Nat} (h : Scn x C O k b true) (hk : k = min O.length 64) : Nxt x C O b := by
  obtain ⟨h1, h2, h3, h4⟩ := h.2 rfl
  exact ⟨by omega, h2, fun i hi hf => h3 i (by have := hf.1; omega) hf, h4⟩
theorem scn_no {x : Int} {C : List (List Int)} {O : List Int} {k b : Nat} (h : Scn x C O k b false) (hk : k = min O.length 64) : Non x C O := fun i hi hf => (h.1 rfl).2 i (by have := hf.1; omega) hf
theorem satN_add {a b : Int} (h : a + b ≤ 18446744073709551615) : satN a b = a + b := by unfold satN; rw [if_pos (by omega)]
theorem fit_iff {x : Int} {C : List (List Int)} {O : List Int} {k : Nat} (h : x + cst (C.getD k []) (O.getD k 0) ≤ 18446744073709551615) (hk : k < 64) :
    Fit x C O k ↔ (O.getD k 0 + 1 < ((C.getD k []).length : Int) ∧ O.getD k 0 + 1 < 8 ∧ cst (C.getD k []) (O.getD k 0 + 1) ≤ x + cst (C.getD k []) (O.getD k 0)) := by
  unfold Fit
  rw [satN_add h]
  exact ⟨fun h => h.2, fun h => ⟨hk, h⟩⟩
/-- What the closure tells. -/
def Tn25 (x : Int) (C : List (List Int)) (O : List Int) (wx : World) (e : Ending) (w' : World) : Prop :=
  ∃ (b : Nat) (f : Bool), e = .returned (.tuple #[.int .i64 b, .bool f]) ∧ (f = true → Nxt x C O b) ∧ (f = false → Non x C O) ∧ ∃ q, w' = wx.drewN q
set_option maxRecDepth 100000 in
set_option maxHeartbeats 4000000 in
/-- WHO IS NEXT. -/
theorem next_any25 (w : World) (q1 q2 q3 p : Nat) (A : Option Addr) (ca n : Nat) (C : List (List Int)) (x : Int) (O : List Int) (wx : World) (m : Nat) (h : Nx25 w q1 q2 q3 p A m ca n x O wx) (hm : MatRd wx A C) (ok : OkO C O) (hn : n = C.length) (hn2 : n ≤ 1000) (hmm : m = min n 64) (hx : 0 ≤ x) (hs : ∀ i, i < n → x + cst (C.getD i []) (O.getD i 0) ≤ 18446744073709551615) :
    Calls Try.prog 13 #[.pointer (some ⟨q1, 0, none⟩), .pointer (some ⟨q2, 0, none⟩), .pointer (some ⟨q3, 0, none⟩)] wx (Tn25 x C O wx) := by
  have H := Lib.hid h
  have c1 := h.c1
  have c2 := h.c2
  have c3 := h.c3
  have HM := Lib.hid hm
  have hlO : O.length = n := by rw [hn]; exact ok.1
  have HOK := Lib.hid ok
  have HS := Lib.hid hs
  have HN := Lib.hid hn
  have HMM := Lib.hid hmm
  have hm1 : m ≤ n := by omega
  have HL := Lib.hid hlO
  have HXX := Lib.hid hx
  clear h hm ok hs hn hmm hlO hx
  go_enter Try.func13, Try.ntmps13
  go_wp2
  go_loopw [5, 6, 11] (fun vb vf vi wr => ∃ (k b : Nat) (f : Bool), k ≤ m ∧ b < 1000 ∧ vb = .int .i64 b ∧ vf = .bool f ∧ vi = .int .i64 k ∧ Hid (Scn x C O k b f) ∧ Hid (∃ q, wr = wx.drewN q)) (fun _ _ i _ => m - (intOf i).toNat)
  case atStart => exact ⟨0, 0, false, by omega, by omega, rfl, rfl, rfl, Lib.hid (scn_start _ _ _), Lib.hid ⟨0, rfl⟩⟩
  case round =>
    obtain ⟨k, b, f, hk, hb, rfl, rfl, rfl, HE, HW⟩ := hrel
    have hnx : Nx25 w q1 q2 q3 p A m ca n x O wr := by obtain ⟨q, e⟩ := HW.out; rw [e]; exact H.out.drewN q
    have hmr : MatRd wr A C := by obtain ⟨q, e⟩ := HW.out; rw [e]; exact HM.out.below (bel25 wx q)
    clear c1 c2 c3
    by_cases g1 : k < m
    · have g1i : (k : Int) < (m : Int) := by omega
      have g1n : (k : Int) < (n : Int) := by omega
      obtain ⟨b0, off, R, cr, rfl, hc, hrow⟩ := hmr.at_ (j := k) (by have := HN.out; omega)
      have c1 := hnx.c1
      have c2 := hnx.c2
      have c3 := hnx.c3
      have c4 := hnx.out.at_ (k := k) (by have := HL.out; omega)
      have hbd := HOK.out.2 k (by have := HL.out; omega)
      have hsk := HS.out k (by omega)
      obtain ⟨t, ht⟩ : ∃ t, t = decide (Fit x C O k) := ⟨_, rfl⟩
      have htt : t = true ↔ Fit x C O k := by rw [ht]; simp
      have hfi := fit_iff hsk (by have := HMM.out; omega)
      have P1 := Lib.hid (fun wy (hh : RdV wy R (C.getD k []).length (C.getD k [])) => within_any25 x R (C.getD k []).length cr (C.getD k []) (O.getD k 0) wy hh ⟨hbd.1, hbd.2.1⟩ HXX.out hsk t (htt.trans hfi))
      have HQ : Hid (∀ q, RdV (wr.drewN q) R (C.getD k []).length (C.getD k [])) := Lib.hid (fun q => hrow.below (bel25 wr q))
      have HT := Lib.hid htt
      clear hrow ht htt hfi hsk
      cases t with
      | false =>
        have HE2 : Hid (Scn x C O (k + 1) b f) := Lib.hid (scn_skip HE.out (fun h => by have := HT.out.2 h; cases this))
        generalize (C.getD k []).length = nr at *
        generalize O.getD k 0 = y at *
        clear hnx hmr HE
        go_wp2
        go_quiet ((go_at_call 14; with_reducible exact Calls.quiet_of (Hid.out P1 _ (Hid.out HQ _))))
        go_wp2
        go_roundw
        case rel => exact ⟨k + 1, b, f, by omega, hb, rfl, rfl, by go_num, HE2, Lib.hid (by obtain ⟨q, e⟩ := HW.out; rw [e, World.drewN_drewN]; exact ⟨_, rfl⟩)⟩
        case measure => (simp [intOf]; try omega)
      | true =>
        cases f with
        | false =>
          have HE2 : Hid (Scn x C O (k + 1) k true) := Lib.hid (scn_take HE.out (HT.out.1 rfl) (fun h => by cases h))
          generalize (C.getD k []).length = nr at *
          generalize O.getD k 0 = y at *
          clear hnx hmr HE
          go_wp2
          go_quiet ((go_at_call 14; with_reducible exact Calls.quiet_of (Hid.out P1 _ (Hid.out HQ _))))
          go_wp2
          go_roundw
          case rel => exact ⟨k + 1, k, true, by omega, by omega, rfl, rfl, by go_num, HE2, Lib.hid (by obtain ⟨q, e⟩ := HW.out; rw [e, World.drewN_drewN]; exact ⟨_, rfl⟩)⟩
          case measure => (simp [intOf]; try omega)
        | true =>
          have hbk := (HE.out.2 rfl).1
          have c5 := hnx.out.at_ (k := b) (by have := HL.out; omega)
          have hbn : (b : Int) < (n : Int) := by omega
          by_cases g : O.getD k 0 < O.getD b 0
          · have HE2 : Hid (Scn x C O (k + 1) k true) := Lib.hid (scn_take HE.out (HT.out.1 rfl) (fun _ => g))
            generalize (C.getD k []).length = nr at *
            generalize O.getD k 0 = y at *
            generalize O.getD b 0 = z at *
            have gd := decide_eq_true g
            clear hnx hmr HE
            go_wp2
            go_quiet ((go_at_call 14; with_reducible exact Calls.quiet_of (Hid.out P1 _ (Hid.out HQ _))))
            go_wp2
            go_roundw
            case rel => exact ⟨k + 1, k, true, by omega, by omega, rfl, rfl, by go_num, HE2, Lib.hid (by obtain ⟨q, e⟩ := HW.out; rw [e, World.drewN_drewN]; exact ⟨_, rfl⟩)⟩
            case measure => (simp [intOf]; try omega)
          · have HE2 : Hid (Scn x C O (k + 1) b true) := Lib.hid (scn_skip HE.out (fun _ => ⟨rfl, by omega⟩))
            generalize (C.getD k []).length = nr at *
            generalize O.getD k 0 = y at *
            generalize O.getD b 0 = z at *
            have gd := decide_eq_false g
            clear hnx hmr HE
            go_wp2
            go_quiet ((go_at_call 14; with_reducible exact Calls.quiet_of (Hid.out P1 _ (Hid.out HQ _))))
            go_wp2
            go_roundw
            case rel => exact ⟨k + 1, b, true, by omega, by omega, rfl, rfl, by go_num, HE2, Lib.hid (by obtain ⟨q, e⟩ := HW.out; rw [e, World.drewN_drewN]; exact ⟨_, rfl⟩)⟩
            case measure => (simp [intOf]; try omega)
    · have g1i : ¬ (k : Int) < (m : Int) := by omega
      have HK : Hid (k = min O.length 64) := Lib.hid (by have := HMM.out; have := HL.out; omega)
      have HF : Hid ((f = true → Nxt x C O b) ∧ (f = false → Non x C O) ∧ ∃ q, wr = wx.drewN q) := Lib.hid ⟨fun e => by subst e; exact scn_yes HE.out HK.out, fun e => by subst e; exact scn_no HE.out HK.out, HW.out⟩
      go_wp2
      (try simp only [Exit.inBlock, Exit.then])
      refine bodyPost_ret (results_tmp2 rfl _ _ _) rfl ?_
      exact ⟨b, f, rfl, HF.out⟩
end Go.Proofs.Ytehnnnhbgjfdgaa
