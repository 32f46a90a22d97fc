/- Contracts of package stun: the closure that yields the bytes of a message's attributes. No statement is proved here. -/
import Derived.Test.YthoiebjndchobaaStunP6
namespace Go.Proofs.Ythoiebjndchobaa
open Go.RowKit
set_option linter.unusedVariables false
attribute [local go_sem] Oper.semAt_some

theorem fill_rd (A : Option Addr) (n c N : Nat) (bs : List UInt8) (m : Nat) (mi : Int) (W : World) (hmi : mi = m) (hN : N = n + lacks n m) (hr : RdS W A n c bs) (h1 : 1 ≤ m) (hm : m ≤ 1000) (hs : n ≤ 1000000) :
    Calls Try.prog 30 #[.slice A n c, .int .i64 mi] W fun e w' => ∃ A' c', e = .returned (.slice A' N c') ∧ RdS w' A' N c' (bs ++ List.replicate (lacks n m) 0) ∧ Below W.heap.size W w' := by
  subst hmi; subst hN
  have hl := hr.len
  have hk := lacks_lt n m h1
  exact (fill_some A n c bs m W hr h1 (by omega) (by omega)).mono (fun e w' ⟨h2, h3, h4⟩ => ⟨_, _, h2, h3.rd (by rw [List.length_append, List.length_replicate]; omega) (Nat.le_refl _) (by simp only [maxLen]; omega), h4⟩)
/-- Attributes' bytes are handed on one by one. -/
def OkW (L : List (Nat × List UInt8)) (pre : List (List UInt8)) (x : List UInt8) : Prop := ∃ k, ∃ h : k < L.length, pre = (L.take k).map attB ∧ x = attB L[k]
def AllW (L : List (Nat × List UInt8)) (xs : List (List UInt8)) : Prop := xs = L.map attB
def EncW (x : List UInt8) (args : Array Value) (W : World) : Prop := ∃ A c, args = #[.slice A x.length c] ∧ RdS W A x.length c x
theorem attrsOf_any (cs : List Value) (w : World) : Calls Try.prog 21 #[.agg cs.toArray] w fun e w' => e = .returned (.func (.func 29) #[] #[.pointer (some ⟨w.heap.size, 0, none⟩)]) ∧ w' = w.alloc (.cells cs.toArray 28) := by
  go_enter Try.func21, Try.ntmps21
  go_wp2
  go_ret
  exact ⟨rfl, rfl⟩
theorem map_snoc {α β : Type} (f : α → β) {L : List α} {k : Nat} (h : k < L.length) : (L.take (k + 1)).map f = (L.take k).map f ++ [f L[k]] := by
  rw [List.take_add_one, List.getElem?_eq_getElem h, List.map_append]; rfl
set_option maxRecDepth 100000 in
set_option maxHeartbeats 2000000 in
theorem attrsOf_iter (w0 w : World) (Bn : Nat) (cs : List Value) (s : Stn) (h : StnRd w0 cs s) (hf : s.fit) (hs : s.av.length ≤ 1000000) (hsm : ∀ x ∈ s.av, x.2.length ≤ 1000) (hb : Below w0.heap.size w0 w) (hB : BlkV w Bn 28 cs) :
    Iter Try.prog 29 #[.pointer (some ⟨Bn, 0, none⟩)] EncW (OkW s.av) (AllW s.av) w0.heap.size w := by
  have hz := zeroAttr
  obtain ⟨A, c, h0, hA⟩ := h
  obtain ⟨ty, tx, L⟩ := s
  obtain ⟨f1, f2, f3⟩ := hf
  simp only at h0 hA f1 f2 f3 hs hsm
  obtain ⟨K, hK⟩ : ∃ K, K = L.length := ⟨_, rfl⟩
  rw [← hK] at h0 hs
  intro l J Jx W hW hJ hJx hY hJ0
  have c13 : W.cell? ⟨Bn, 13, none⟩ = some (.slice A K c) := ((hB.below hW hB.lt).cell 13).trans (by rw [h0]; exact sC_at13 _ _ _ f2)
  have HBW := Lib.hid (hb.trans (hW.mono hb.size))
  have HY := Lib.hid hY
  have HJ := Lib.hid hJ
  have H0 := Lib.hid hJ0
  have HA := Lib.hid hA
  have HK := Lib.hid hK
  have F3 := Lib.hid f3
  have HSM := Lib.hid hsm
  clear hW hb hB hY hJ hJx hJ0 hA hK f3 hsm h0 f2
  refine callsIn_of_wp Try.func29 rfl trivial ?_ rfl
  simp only [Try.ntmps29, List.size_toArray, List.length_cons, List.length_nil, Nat.reduceAdd, Nat.reduceSub, Array.replicate_succ, Array.replicate_zero, List.push_toArray, List.append_toArray, List.nil_append, List.cons_append]
  gi_wp2
  gi_loopw [9] (fun i wr => ∃ k : Nat, k ≤ K ∧ i = .int .i64 k ∧ Hid (Below w0.heap.size w0 wr) ∧ Hid (J ((L.take k).map attB) wr)) (fun i _ => K - (intOf i).toNat)
  case atStart => exact ⟨0, by omega, rfl, HBW, Lib.hid (by simpa using H0.out)⟩
  case round =>
    obtain ⟨k, hk, rfl, HB, HJ2⟩ := hrel
    by_cases hkn : k < K
    · have hkl : k < L.length := by rw [← HK.out]; exact hkn
      obtain ⟨gb, go, D, d, rfl, hat, hrd⟩ := HA.out.at_ hkl
      obtain ⟨z0, z1⟩ := hat wr HB.out
      have hx1 := F3.out _ (List.getElem_mem hkl)
      have hx2 := HSM.out _ (List.getElem_mem hkl)
      have hrr := hrd.below HB.out
      have HNX := Lib.hid (map_snoc attB hkl)
      have HOK : Hid (OkW L ((L.take k).map attB) (attB L[k])) := Lib.hid ⟨k, hkl, rfl, rfl⟩
      have hal := attB_len L[k]
      obtain ⟨y, hy⟩ : ∃ y, y = L[k] := ⟨_, rfl⟩
      rw [← hy] at z0 z1 hx1 hx2 hrr HNX HOK hal
      obtain ⟨x1, x2⟩ := y
      simp only at z0 z1 hx1 hx2 hrr hal
      obtain ⟨N, hN⟩ : ∃ N, N = x2.length := ⟨_, rfl⟩
      rw [← hN] at z1 hx2 hrr hal
      have HN := Lib.hid hN
      have ew1 : IntKind.u64.wrap (x1 : Int) = (x1 : Int) := by rw [IntKind.wrap_u64]; omega
      have ew2 : IntKind.u64.wrap (N : Int) = (N : Int) := by rw [IntKind.wrap_u64]; omega
      obtain ⟨W1, hW1⟩ : ∃ W1, W1 = wr.alloc (.cells #[.int .u16 (x1 : Int), .slice D N d] 47) := ⟨_, rfl⟩
      have hb1 : Below wr.heap.size wr W1 := by rw [hW1]; exact (Below.refl _ _).alloc (Nat.le_refl _) _
      have HV1 : Hid (BlkV W1 wr.heap.size 47 [.int .u16 (x1 : Int), .slice D N d]) := Lib.hid (by rw [hW1]; exact BlkV.new_at _ _ _ _ _ rfl rfl)
      have HR1 := Lib.hid (hrr.below hb1)
      have HB1 := Lib.hid hb1
      have HP1 : Hid (Calls Try.prog 22 #[.slice none 0 0, .int .i64 2, .int .u64 (x1 : Int)] (wr.alloc (.cells #[.int .u16 (x1 : Int), .slice D N d] 47)) fun e w' => ∃ A' c', e = .returned (.slice A' 2 c') ∧ BO W1 w' A' 2 c' (beb 2 x1) ∧ Below W1.heap.size W1 w') := Lib.hid (by rw [← hW1]; exact putNil_bo W1 2 x1 2 x1 rfl rfl (by omega) (by omega) (by omega))
      obtain ⟨Z, hZ⟩ : ∃ Z, Z = (attB (x1, x2)).length := ⟨_, rfl⟩
      have hlk := lacks_lt (4 + N) 4 (by omega)
      have hlq : lacks (4 + N) 4 = lacks N 4 := by unfold lacks; omega
      have hZN : Z = 4 + N + lacks (4 + N) 4 := by rw [hZ, attB_len]; simp only [← hN]; unfold lacks; omega
      have HZ := Lib.hid hZ
      have HZN := Lib.hid hZN
      have HAT : Hid (beb 2 x1 ++ beb 2 N ++ x2 ++ List.replicate (lacks (4 + N) 4) 0 = attB (x1, x2)) := Lib.hid (by rw [hlq]; simp only [attB, ← hN, List.append_assoc])
      have hZ9 : Z ≤ 100000 := by omega
      clear hat hrd hrr hy hN hb1 hW1 hZ hlk hlq hZN hal
      gi_wp2_with (first
        | (refine ⟨trivial, ?_⟩; gi_at_call 22; ((with_reducible refine (callsIn_wide.2 (Hid.out HP1)).mono ?_); rintro e w2 ⟨A2, c2, rfl, hbo, hb2⟩; have B2 := Lib.hid hbo; have q1 : w2.cell? ⟨wr.heap.size, 1, none⟩ = some (.slice D N d) := ((HV1.out.below hb2 HV1.out.lt).cell 1).trans rfl; clear hbo hb2))
        | (refine ⟨trivial, ?_⟩; gi_at_call 22; ((with_reducible refine (callsIn_wide.2 (put_bo W1 w2 A2 2 c2 4 (beb 2 x1) 2 N 2 (N : Int) rfl rfl rfl B2.out (by omega) (by omega) (by omega) (by omega))).mono ?_); rintro e w3 ⟨A3, c3, rfl, hbo, hb3⟩; have B3 := Lib.hid hbo; have q3 : w3.cell? ⟨wr.heap.size, 1, none⟩ = some (.slice D N d) := ((HV1.out.below hbo.2 HV1.out.lt).cell 1).trans rfl; clear hbo hb3))
        | (refine in_wide wide_wide (by intro c hc; cases hc) ?_; at_builtin; refine wpList_append_rd _ rfl (.tmp 23) (.tmp 25) rfl Try.underlying22 u8_info W1.heap.size (.slice A3 4 c3) 4 (beb 2 x1 ++ beb 2 N) rfl B3.out.1 D N d x2 rfl (HR1.out.below B3.out.2) (by omega) B3.out.2.size ?_; intro v4 w4 hown hg _; refine ⟨rfl, ?_⟩; obtain ⟨A4, c4, hv⟩ := own_formN hown; subst hv; have B4 := Lib.hid (B3.out.more hown hg); clear hown hg)
        | (refine ⟨trivial, ?_⟩; gi_at_call 30; ((with_reducible refine (callsIn_wide.2 (fill_rd A4 (4 + N) c4 Z _ 4 4 w4 rfl HZN.out B4.out.rd (by omega) (by omega) (by omega))).mono ?_); rintro e w5 ⟨A5, c5, rfl, hr5, hb5⟩; have hbb : Below wr.heap.size wr w5 := HB1.out.trans ((B4.out.2.mono HB1.out.size).trans (hb5.mono (Nat.le_trans HB1.out.size B4.out.2.size))); have HBB := Lib.hid hbb; obtain ⟨fn, tmps, asg, bdy, hyy, hRd⟩ := HY.out ((L.take k).map attB) (attB (x1, x2)) #[.slice A5 Z c5] w5 (HJ.out _ _ _ HJ2.out hbb) HOK.out ⟨A5, c5, (by rw [HZ.out]), (by rw [← HZ.out, ← HAT.out]; exact hr5)⟩; have HRd := Lib.hid hRd; clear hRd hr5 hb5 hbb)))
      refine HRd.out.mono ?_
      rintro e W3 (⟨rfl, hJ3, hk3⟩ | ⟨rfl, hJx3⟩)
      · have HJ3 : Hid (J ((L.take (k + 1)).map attB) W3) := Lib.hid (by rw [HNX.out]; exact hJ3)
        have HB3 : Hid (Below w0.heap.size w0 W3) := Lib.hid ((HB.out.trans (HBB.out.mono HB.out.size)).trans hk3)
        clear hJ3 hk3
        gi_wp2
        go_roundw
        case rel => exact ⟨k + 1, by omega, by go_num, HB3, HJ3⟩
        case measure => simp [intOf]; omega
      · gi_wp2
        refine bodyPost_ret (results_none rfl _ _ _) rfl ?_
        exact ⟨⟨_, rfl⟩, .inr ⟨_, hJx3⟩⟩
    · obtain rfl : K = k := by omega
      have hlt : ¬ (K : Int) < (K : Int) := by omega
      gi_wp2
      go_end0
      exact ⟨⟨_, rfl⟩, .inl ⟨_, rfl, by have := HJ2.out; rw [HK.out, List.take_length] at this; exact this⟩⟩
end Go.Proofs.Ythoiebjndchobaa
