/- Contracts of package losses: the iterator over what is due. No statement is proved here. -/
import Derived.Test.YtkmacpmdgbhhkaaLosP6
import Derived.Test.YtkmacpmdgbhhkaaRngF
namespace Go.Proofs.Ytkmacpmdgbhhkaa
open Go.RowKit
set_option linter.unusedVariables false
attribute [local go_sem] Oper.semAt_some

/-- Whether a packet may be asked for at a tick. -/
def Pk20.due (tk : Int) (x : Pk20) : Bool := decide (x.s + x.d ≤ tk)
def EncD20 (x : Pk20) (args : Array Value) (W : World) : Prop := args = #[x.p]
def OkD20 (X : List Pk20) (tk : Int) (pre : List Pk20) (x : Pk20) : Prop := ∃ rest, X.filter (Pk20.due tk) = pre ++ x :: rest
def AllD20 (X : List Pk20) (tk : Int) (xs : List Pk20) : Prop := xs = X.filter (Pk20.due tk)
/-- What the iterator asks of memory: the row of pointers, and those that weren't handed on. -/
structure Fit20 (A : Option Addr) (c : Nat) (X : List Pk20) (tk : Int) (bk bt g : Nat) (pre : List Pk20) (W : World) : Prop where
  k : W.cell? ⟨bk, 0, none⟩ = some (.pointer (some ⟨g, 0, none⟩))
  t : W.cell? ⟨bt, 0, none⟩ = some (.int .i64 tk)
  s : W.cell? ⟨g, 3, none⟩ = some (.slice A X.length c)
  row : ∀ k (hk : k < X.length), ∃ b, A = some ⟨b, 0, none⟩ ∧ W.cell? ⟨b, k, none⟩ = some (X[k]'hk).p
  pk : ∀ x ∈ X, x ∉ pre → BlkV W x.q 63 x.c
theorem take_filterD20 {X : List Pk20} {f : Pk20 → Bool} {k : Nat} (hk : k < X.length) (hd : f (X[k]'hk) = true) : ∃ rest, X.filter f = (X.take k).filter f ++ (X[k]'hk) :: rest := by
  refine ⟨(X.drop (k + 1)).filter f, ?_⟩
  have h1 : X.filter f = (X.take k).filter f ++ (X.drop k).filter f := by rw [← List.filter_append, List.take_append_drop]
  rw [h1, List.drop_eq_getElem_cons hk, List.filter_cons_of_pos hd]
theorem not_taken20 {X : List Pk20} (hr : X.Pairwise fun a b => a.i < b.i) {f : Pk20 → Bool} {k : Nat} (hk : k < X.length) : (X[k]'hk) ∉ (X.take k).filter f := fun hm => by
  have h1 := (List.mem_filter.1 hm).1
  obtain ⟨j, hj, he⟩ := List.getElem_of_mem h1
  rw [List.getElem_take] at he
  have hjk : j < k := by rw [List.length_take] at hj; omega
  have := List.pairwise_iff_getElem.1 hr j k (by omega) hk hjk
  rw [he] at this
  omega
theorem due_any20 (g : Nat) (tk : Int) (w : World) : Calls Try.prog 19 #[.pointer (some ⟨g, 0, none⟩), .int .i64 tk] w fun e w' => e = .returned (.func (.func 30) #[] #[.pointer (some ⟨w.heap.size, 0, none⟩), .pointer (some ⟨w.heap.size + 1, 0, none⟩)]) ∧ w' = (w.alloc (.cells #[.pointer (some ⟨g, 0, none⟩)] 24)).alloc (.cells #[.int .i64 tk] 2) := by
  go_enter Try.func19, Try.ntmps19
  go_wp2
  go_ret
  exact ⟨rfl, rfl⟩
set_option maxRecDepth 100000 in
set_option maxHeartbeats 2000000 in
theorem due_iter20 (A : Option Addr) (c : Nat) (X : List Pk20) (tk : Int) (bk bt g : Nat) (w : World) (hr : X.Pairwise fun a b => a.i < b.i) (hfew : X.length ≤ 1000000) (ht : -9223372036854775808 ≤ tk ∧ tk ≤ 9223372036854775807)
    (hbd : ∀ x ∈ X, (-9223372036854775808 ≤ x.s ∧ x.s ≤ 9223372036854775807) ∧ 0 ≤ x.d ∧ x.d ≤ 9223372036854775807) :
    IterF Try.prog 30 #[.pointer (some ⟨bk, 0, none⟩), .pointer (some ⟨bt, 0, none⟩)] EncD20 (OkD20 X tk) (AllD20 X tk) (Fit20 A c X tk bk bt g) w := by
  intro l J Jx W hW hJ hJx hF hY h0
  have f0 := hF _ _ h0
  have ck := f0.k
  have cs := f0.s
  have HF := Lib.hid hF
  have HY := Lib.hid hY
  have HJ := Lib.hid hJ
  have H0 := Lib.hid h0
  have HR := Lib.hid hr
  have HBD := Lib.hid hbd
  obtain ⟨n, hn⟩ : ∃ n, n = X.length := ⟨_, rfl⟩
  rw [← hn] at hfew cs
  have HN := Lib.hid hn
  clear hW hF hY hJ hJx h0 f0 hr hbd hn
  refine callsIn_of_wp Try.func30 rfl trivial ?_ rfl
  simp only [Try.ntmps30, List.size_toArray, List.length_cons, List.length_nil, Nat.reduceAdd, Nat.reduceSub, Array.replicate_succ, Array.replicate_zero, List.push_toArray, List.append_toArray, List.nil_append, List.cons_append]
  gi_wp2
  gi_loopw [11] (fun i wr => ∃ k : Nat, k ≤ n ∧ i = .int .i64 k ∧ Hid (J ((X.take k).filter (Pk20.due tk)) wr)) (fun i _ => n - (intOf i).toNat)
  case atStart => exact ⟨0, by omega, rfl, Lib.hid (by simpa using H0.out)⟩
  case round =>
    obtain ⟨k, hk, rfl, HJ2⟩ := hrel
    by_cases hlt : k < n
    · have hlx : k < X.length := by rw [← HN.out]; exact hlt
      have hfit := HF.out _ _ HJ2.out
      obtain ⟨b, hA, hc⟩ := hfit.row k hlx
      have htc := hfit.t
      subst hA
      obtain ⟨x, hx⟩ : ∃ x, x = X[k]'hlx := ⟨_, rfl⟩
      have hmem : x ∈ X := by rw [hx]; exact List.getElem_mem hlx
      have hpk := hfit.pk x hmem (by rw [hx]; exact not_taken20 HR.out hlx)
      rw [← hx] at hc
      have HD := Lib.hid (isDue_any20 wr x tk hpk (HBD.out x hmem).1 (HBD.out x hmem).2 ht)
      have hki : (k : Int) < (n : Int) := by omega
      obtain ⟨d, hd⟩ : ∃ d, d = decide (x.s + x.d ≤ tk) := ⟨_, rfl⟩
      rw [← hd] at HD
      have hdw : ∀ q, Below wr.heap.size wr (wr.drewN q) := fun q => ⟨rfl, rfl, rfl, Nat.le_refl _, fun _ _ => rfl⟩
      have HDW := Lib.hid hdw
      have HX := Lib.hid hx
      have HDD := Lib.hid hd
      have HLX := Lib.hid hlx
      obtain ⟨xq, xi, xt, xs, xd⟩ := x
      simp only [Pk20.p] at hc HD
      clear hfit hx hmem hpk hd hdw
      cases d with
      | true =>
        have HOK : Hid (OkD20 X tk ((X.take k).filter (Pk20.due tk)) ⟨xq, xi, xt, xs, xd⟩) := Lib.hid (by
          have := take_filterD20 (f := Pk20.due tk) HLX.out (by rw [← HX.out]; exact HDD.out.symm)
          rw [← HX.out] at this
          exact this)
        have HNX : Hid ((X.take (k + 1)).filter (Pk20.due tk) = (X.take k).filter (Pk20.due tk) ++ [⟨xq, xi, xt, xs, xd⟩]) := Lib.hid (by
          rw [take_snocF20 HLX.out, ← HX.out]
          congr 1
          have : Pk20.due tk ⟨xq, xi, xt, xs, xd⟩ = true := HDD.out.symm
          rw [if_pos this])
        gi_wp2_with (refine ⟨trivial, ?_⟩; gi_at_call 31; ((with_reducible refine (callsIn_wide.2 (Hid.out HD)).mono ?_); rintro e w2 ⟨rfl, q, rfl⟩; obtain ⟨fn, tmps, asg, bdy, hyy, hRd⟩ := HY.out _ ⟨xq, xi, xt, xs, xd⟩ #[.pointer (some ⟨xq, 0, none⟩)] (wr.drewN q) (HJ.out _ _ _ HJ2.out (HDW.out q)) HOK.out rfl; have HRd := Lib.hid hRd; clear hRd))
        refine HRd.out.mono ?_
        rintro e W3 (⟨rfl, hJ3⟩ | ⟨rfl, hJx3⟩)
        · have HJ3 : Hid (J ((X.take (k + 1)).filter (Pk20.due tk)) W3) := Lib.hid (by rw [HNX.out]; exact hJ3)
          clear hJ3
          gi_wp2
          go_roundw
          case rel => exact ⟨k + 1, by omega, by go_num, HJ3⟩
          case measure => simp [intOf]; omega
        · gi_wp2
          refine bodyPost_ret (results_none rfl _ _ _) rfl ?_
          exact ⟨⟨_, rfl⟩, .inr ⟨_, hJx3⟩⟩
      | false =>
        have HNX : Hid ((X.take (k + 1)).filter (Pk20.due tk) = (X.take k).filter (Pk20.due tk)) := Lib.hid (by
          rw [take_snocF20 HLX.out, ← HX.out]
          have : Pk20.due tk ⟨xq, xi, xt, xs, xd⟩ = false := HDD.out.symm
          simp [this])
        gi_wp2_with (refine ⟨trivial, ?_⟩; gi_at_call 31; ((with_reducible refine (callsIn_wide.2 (Hid.out HD)).mono ?_); rintro e w2 ⟨rfl, q, rfl⟩))
        refine ⟨fun f hf => (nomatch hf), ?_⟩
        gi_wp2
        go_roundw
        case rel => exact ⟨k + 1, by omega, by go_num, Lib.hid (by rw [HNX.out]; exact HJ.out _ _ _ HJ2.out (HDW.out q))⟩
        case measure => simp [intOf]; omega
    · obtain rfl : n = k := by omega
      have hlt2 : ¬ (n : Int) < (n : Int) := by omega
      gi_wp2
      go_end0
      exact ⟨⟨_, rfl⟩, .inl ⟨_, rfl, by have := HJ2.out; rw [HN.out, List.take_length] at this; exact this⟩⟩
end Go.Proofs.Ytkmacpmdgbhhkaa
