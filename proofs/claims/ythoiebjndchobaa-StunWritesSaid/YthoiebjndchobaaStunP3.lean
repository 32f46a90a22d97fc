/- Contracts of package stun: the closure that yields the attributes that bytes are. No statement is proved here. -/
import Derived.Test.YthoiebjndchobaaStunP2
import Derived.Test.YthoiebjndchobaaRng
import Derived.Shelf.Abstract
import Derived.WalkKit
namespace Go.Proofs.Ythoiebjndchobaa
open Go.RowKit
set_option linter.unusedVariables false
attribute [local go_sem] Oper.semAt_some

/-- A slice's rest from lo on. -/
theorem run_lo (A : Option Addr) (n c lo : Nat) (li : Int) (hli : li = lo) (h : lo ≤ n) (hle : n ≤ c) (hm : c ≤ maxLen) :
    ∃ A2, (∀ wx, (Instr.sliceAt 22 (.slice A n c) (some (.int .i64 li)) none none).run Try.prog wx = .ok (.slice A2 (n - lo) (c - lo)) wx) ∧ (∀ wx, (Instr.slice 22 (.slice A n c) (some (.int .i64 li)) none none).run Try.prog wx = .ok (.slice A2 (n - lo) (c - lo)) wx) ∧ ∀ w bs, RdS w A n c bs → RdS w A2 (n - lo) (c - lo) (bs.drop lo) := by
  subst hli
  have e : ∀ wx, (Instr.slice 22 (.slice A n c) (some (.int .i64 (lo : Int))) none none).run Try.prog wx = .ok (.slice (if c = lo then A else A.map (·.add (lo * 1))) (n - lo) (c - lo)) wx := fun wx => by
    rw [run_slice_l wx 22 A n c undB .i64 (lo : Int) (by omega) (by omega)]
    simp only [szB, Result.andThen_ok, sliced, Int.toNat_natCast]
  refine ⟨_, fun wx => ?_, e, fun w bs hr => hr.cut lo (by omega)⟩
  rw [run_sliceAt_slice _ _ _ _ _ _ undB]
  exact e wx
/-- What may come behind these, of bytes that are gone through: the next attribute, or that there is none. -/
def OkA (body : List UInt8) (pre : List (Option (Nat × List UInt8))) (x : Option (Nat × List UInt8)) : Prop :=
  ∃ L rest, pre = L.map some ∧ body = bodS L ++ rest ∧ fitA L ∧ rest ≠ [] ∧ ((∃ y, HeadA rest y ∧ x = some y) ∨ ((∀ y, ¬ HeadA rest y) ∧ x = none))
/-- All have come. -/
def AllA (body : List UInt8) (xs : List (Option (Nat × List UInt8))) : Prop := (∃ L, xs = L.map some ∧ body = bodS L ∧ fitA L) ∨ none ∈ xs
/-- What is handed on. -/
def EncA (n0 : Nat) (x : Option (Nat × List UInt8)) (args : Array Value) (W : World) : Prop :=
  (∀ y, x = some y → ∃ D d, args = #[.agg #[.int .u16 (y.1 : Int), .slice D y.2.length d], .bool true] ∧ W.ownsRow n0 5 1 (.slice D y.2.length d) y.2.length (cells y.2)) ∧ (x = none → args = #[.agg #[.int .u16 0, .slice none 0 0], .bool false])
def slLen : Value → Nat | .slice _ n _ => n | _ => 0
theorem bodS_end (L : List (Nat × List UInt8)) (y : Nat × List UInt8) : bodS (L ++ [y]) = bodS L ++ attB y := by simp [bodS]
theorem fitA.snoc {L : List (Nat × List UInt8)} {y : Nat × List UInt8} (h : fitA L) (h1 : y.1 < 65536) (h2 : y.2.length ≤ 255) : fitA (L ++ [y]) := by
  intro z hz
  rcases List.mem_append.1 hz with hz | hz
  · exact h z hz
  · simp at hz; subst hz; exact ⟨h1, h2⟩
theorem attrsIn_any (A : Option Addr) (n c : Nat) (w : World) : Calls Try.prog 18 #[.slice A n c] w fun e w' => e = .returned (.func (.func 27) #[] #[.pointer (some ⟨w.heap.size, 0, none⟩)]) ∧ w' = w.alloc (.cells #[.slice A n c] 22) := by
  go_enter Try.func18, Try.ntmps18
  go_wp2
  go_ret
  exact ⟨rfl, rfl⟩
set_option maxRecDepth 100000 in
set_option maxHeartbeats 2000000 in
theorem attrsIn_iter (n0 Bn : Nat) (A : Option Addr) (n c : Nat) (body : List UInt8) (w : World) (hn0 : n0 ≤ w.heap.size) (hBn : w.cell? ⟨Bn, 0, none⟩ = some (.slice A n c)) (hBlt : Bn < w.heap.size) (hR : ∀ W, Below n0 w W → RdS W A n c body) (hn : n ≤ 100000) :
    Iter Try.prog 27 #[.pointer (some ⟨Bn, 0, none⟩)] (EncA n0) (OkA body) (AllA body) n0 w := by
  intro l J Jx W hW hJ hJx hY h0
  have hc := (hW.cell (p := ⟨Bn, 0, none⟩) hBlt).trans hBn
  have hb0 : Below n0 w W := hW.mono hn0
  have HB := Lib.hid hb0
  have HY := Lib.hid hY
  have HJ := Lib.hid hJ
  have HR := Lib.hid hR
  have H0 := Lib.hid h0
  clear hW hBn hb0 hY hJ hJx hR h0
  refine callsIn_of_wp Try.func27 rfl trivial ?_ rfl
  simp only [Try.ntmps27, List.size_toArray, List.length_cons, List.length_nil, Nat.reduceAdd, Nat.reduceSub, Array.replicate_succ, Array.replicate_zero, List.push_toArray, List.append_toArray, List.nil_append, List.cons_append]
  gi_wp2
  gi_loopw [3] (fun p wr => ∃ (L : List (Nat × List UInt8)) (rest : List UInt8) (A2 : Option Addr) (m c2 : Nat), p = .slice A2 m c2 ∧ m ≤ 100000 ∧ m ≤ c2 ∧ c2 ≤ maxLen ∧ Hid (body = bodS L ++ rest) ∧ Hid (fitA L) ∧ Hid (J (L.map some) wr) ∧ Hid (Below n0 w wr) ∧ Hid (∀ W, Below n0 w W → RdS W A2 m c2 rest)) (fun p _ => slLen p)
  case atStart => exact ⟨[], body, A, n, c, rfl, hn, (HR.out _ HB.out).le, (HR.out _ HB.out).max, Lib.hid (by simp [bodS]), Lib.hid (fun y hy => by simp at hy), H0, HB, HR⟩
  case round =>
    obtain ⟨L, rest, A2, m, c2, rfl, hm, hmc, hcm, HE, HF, HJ2, HB2, HR2⟩ := hrel
    by_cases h0 : m = 0
    · have hrest : rest = [] := List.eq_nil_of_length_eq_zero (by rw [(HR2.out _ HB2.out).len]; exact h0)
      have h0i : ¬ (0 : Int) < (m : Int) := by omega
      clear h0
      gi_wp2
      go_end0
      exact ⟨⟨_, rfl⟩, .inl ⟨L.map some, .inl ⟨L, rfl, by rw [HE.out, hrest]; simp, HF.out⟩, HJ2.out⟩⟩
    · have h0i : (0 : Int) < (m : Int) := by omega
      have hne : rest ≠ [] := fun h => h0 (by rw [← (HR2.out _ HB2.out).len, h]; rfl)
      have HNE := Lib.hid hne
      clear h0 hne
      by_cases hy : ∃ y, HeadA rest y
      · obtain ⟨y, hy⟩ := hy
        have HC := Lib.hid (first_yes A2 m c2 rest y wr (HR2.out _ HB2.out) hm hy)
        obtain ⟨_, _, _, _, hlt, htk⟩ := hy.parts
        have hl := (HR2.out _ HB2.out).len
        have h4 := attB_len y
        have HNX := Lib.hid (fitA.snoc HF.out hy.1 hy.2.1)
        have HY2 := Lib.hid hy
        obtain ⟨Z, hZ⟩ : ∃ Z, Z = (attB y).length := ⟨_, rfl⟩
        have HRE : Hid (rest = attB y ++ rest.drop Z) := Lib.hid (by conv => lhs; rw [← List.take_append_drop Z rest]
                                                                     rw [htk, ← hZ])
        have hZm : Z ≤ m := by omega
        have hZ0 : 0 < Z := by omega
        obtain ⟨A3, hs3, hs3', hr3⟩ := run_lo A2 m c2 Z (Z : Int) rfl hZm hmc hcm
        have HR3 := Lib.hid hr3
        unfold F12 at HC
        rw [← hZ] at HC
        clear hy hlt htk hl h4 hZ hr3
        gi_wp2_with (refine ⟨trivial, ?_⟩; gi_at_call 28; refine (callsIn_wide.2 HC.out).mono ?_; rintro e w2 ⟨D, d, rfl, hown, hb2⟩; have hbA : Below wr.heap.size wr (w2.alloc (.cells #[.int .u16 (y.1 : Int), .slice D y.2.length d] 47)) := hb2.alloc hb2.size _; have HBA := Lib.hid hbA; obtain ⟨fn, tmps, asg, bdy, hyy, hRd⟩ := HY.out (L.map some) (some y) #[.agg #[.int .u16 (y.1 : Int), .slice D y.2.length d], .bool true] (w2.alloc (.cells #[.int .u16 (y.1 : Int), .slice D y.2.length d] 47)) (HJ.out _ _ _ HJ2.out hbA) ⟨L, rest, rfl, HE.out, HF.out, HNE.out, .inl ⟨y, HY2.out, rfl⟩⟩ ⟨fun z hz => (by injection hz with hz; subst hz; exact ⟨D, d, rfl, own_thN (own_moN hown (Nat.le_trans hn0 HB2.out.size)) (grown_alloc _ _ none) (fun p hp => (nomatch hp))⟩), fun h => (nomatch h)⟩; have HRd := Lib.hid hRd; clear hRd hb2 hbA hown)
        refine HRd.out.mono ?_
        rintro e W3 (⟨rfl, hJ3, hk3⟩ | ⟨rfl, hJx3⟩)
        · have HJ3 : Hid (J ((L ++ [y]).map some) W3) := Lib.hid (by rw [List.map_append]; exact hJ3)
          have HB3 : Hid (Below n0 w W3) := Lib.hid ((HB2.out.trans (HBA.out.mono (Nat.le_trans hn0 HB2.out.size))).trans hk3)
          clear hJ3 hk3
          gi_wp2
          go_roundw
          case rel => exact ⟨L ++ [y], rest.drop Z, A3, m - Z, c2 - Z, rfl, by omega, by omega, by omega, Lib.hid (by rw [bodS_end, List.append_assoc, ← HRE.out]; exact HE.out), HNX, HJ3, HB3, Lib.hid (fun W hb => HR3.out _ _ (HR2.out W hb))⟩
          case measure => simp only [slLen]; omega
        · gi_wp2
          refine bodyPost_ret (results_none rfl _ _ _) rfl ?_
          exact ⟨⟨_, rfl⟩, .inr ⟨_, hJx3⟩⟩
      · have hno : ∀ y, ¬ HeadA rest y := fun y h => hy ⟨y, h⟩
        have HC := Lib.hid (first_no A2 m c2 rest wr (HR2.out _ HB2.out) hm hno)
        have HNO := Lib.hid hno
        clear hy hno
        gi_wp2_with (refine ⟨trivial, ?_⟩; gi_at_call 28; refine (callsIn_wide.2 HC.out).mono ?_; rintro e w2 ⟨rfl, hb2⟩; obtain ⟨fn, tmps, asg, bdy, hyy, hRd⟩ := HY.out (L.map some) none #[.agg #[.int .u16 0, .slice none 0 0], .bool false] (w2.alloc (.cells #[.int .u16 0, .slice none 0 0] 47)) (HJ.out _ _ _ HJ2.out (hb2.alloc hb2.size _)) ⟨L, rest, rfl, HE.out, HF.out, HNE.out, .inr ⟨HNO.out, rfl⟩⟩ ⟨fun y h => (nomatch h), fun _ => rfl⟩; have HRd := Lib.hid hRd; clear hRd hb2)
        refine HRd.out.mono ?_
        rintro e W3 (⟨rfl, hJ3, _⟩ | ⟨rfl, hJx3⟩)
        · gi_wp2
          refine bodyPost_ret (results_none rfl _ _ _) rfl ?_
          exact ⟨⟨_, rfl⟩, .inl ⟨_, .inr (by simp), hJ3⟩⟩
        · gi_wp2
          refine bodyPost_ret (results_none rfl _ _ _) rfl ?_
          exact ⟨⟨_, rfl⟩, .inr ⟨_, hJx3⟩⟩
end Go.Proofs.Ythoiebjndchobaa
