/- JitterTakes' walk: the jitter of any packets, each time it is asked, is the document's. -/
import Derived.Test.YtmajgnnljlkjhaaJitLaw
import Derived.Test.YtmajgnnljlkjhaaJitRef
namespace Go.Proofs.Ytmajgnnljlkjhaa
open Go.RowKit
set_option linter.unusedVariables false

/-- The first m of them. -/
theorem RdK.head {k : IntKind} {w : World} {A : Option Addr} {n : Nat} {zs : List Int} (h : RdK k w A n zs) (m : Nat) (hm : m ≤ n) : RdK k w A m (zs.take m) := by
  refine ⟨by rw [List.length_take, h.len]; omega, by have := h.small; omega, fun z hz => h.2.2.1 z (List.mem_of_mem_take hz), fun h0 => ?_⟩
  obtain ⟨b, off, hA, hlt, hc⟩ := h.2.2.2 (by omega)
  exact ⟨b, off, hA, hlt, fun j hj => (hc j (by omega)).trans (by simp [List.getD, hj])⟩
theorem RdK.caps {k : IntKind} {w : World} {zs : List Int} {a : Option Addr} {len cap : Nat}
    (h : (a = none ∧ len = 0 ∧ cap = 0 ∧ zs = []) ∨
      ∃ x, a = some x ∧ len ≤ cap ∧ cap ≤ maxLen ∧ zs.length = cap ∧ (∀ i, i < zs.length → w.cell? (x.add i) = some (.int k (zs.getD i 0))) ∧ ∀ n ∈ zs, (Lit.int k n).wf = true) :
    len ≤ cap ∧ cap ≤ 9223372036854775807 := by
  rcases h with ⟨rfl, rfl, rfl, rfl⟩ | ⟨x, rfl, hl, hm, _⟩
  · exact ⟨Nat.le_refl _, by omega⟩
  · exact ⟨hl, hm⟩
theorem below_drewJ {B : Nat} {w w' : World} (h : Below B w w') : Below B w w'.drew := ⟨h.os, h.tape, h.output, h.size, h.block⟩
theorem sixJ_congr {f g : Nat → Int} : ∀ n : Nat, (∀ k, k < n → f k = g k) → sixJ f n = sixJ g n
  | 0, _ => rfl
  | n + 1, h => by
    have ih := sixJ_congr n (fun k hk => h k (by omega))
    simp only [sixJ]
    by_cases h0 : n = 0
    · rw [if_pos h0, if_pos h0]
    · rw [if_neg h0, if_neg h0, ih, h (n - 1) (by omega), h n (by omega)]
theorem sixJ_take (cs ss : List Int) (n : Nat) : sixJ (wayJ (cs.take n) (ss.take n)) n = sixJ (wayJ cs ss) n :=
  sixJ_congr n fun k hk => by simp [wayJ, List.getD, hk]

set_option maxRecDepth 100000 in
theorem jitterTakes_walk (A B : Option Addr) (n m ca cb : Nat) (cs ss : List Int) (w : World) (hA : RdK .u32 w A n cs) (hB : RdK .u32 w B m ss) (hca : n ≤ ca) (hcb : m ≤ cb) (hcam : ca ≤ 9223372036854775807) (hcbm : cb ≤ 9223372036854775807) :
    Calls Try.prog 3 #[.slice A n ca, .slice B m cb] w fun e w' => e = .returned (.bool true) ∧ Below w.heap.size w w' := by
  have HAL := Lib.hid (alive_anyJ w)
  have hz := zeroGauge
  have hns := hA.small
  have hms := hB.small
  have HA := Lib.hid hA
  have HB := Lib.hid hB
  clear hA hB
  go_enter Try.func3, Try.ntmps3
  go_wp2_with (go_at_call 6; ((with_reducible refine (Hid.out HAL).mono ?_); rintro e w0 ⟨rfl, b0⟩; have h0 := gau_new w0))
  have hb2 : Below w.heap.size w (w0.alloc (.cells #[.int .u32 0, .int .u64 0, .int .i64 0] 29)) := b0.alloc b0.size _
  have hg0 := b0.size
  obtain ⟨g, hg⟩ : ∃ g, g = w0.heap.size := ⟨_, rfl⟩
  rw [← hg] at h0 hg0 ⊢
  have H2 := Lib.hid (And.intro h0 hb2)
  have HG := Lib.hid hg0
  clear hg h0 hb2 b0 HAL hg0
  go_loopw [6] (fun vi wr => ∃ (k : Nat), k ≤ n ∧ k ≤ m ∧ k ≤ 80 ∧ vi = .int .i64 k ∧ Hid (GauAt wr g (gauJ (wayJ cs ss) k) ∧ Below w.heap.size w wr)) (fun i _ => n - (intOf i).toNat)
  case atStart => exact ⟨0, by omega, by omega, by omega, rfl, H2⟩
  case round =>
    clear H2
    obtain ⟨k, hk, hkm, hk2, rfl, HE⟩ := hrel
    by_cases hlt : k < n
    · by_cases hltm : k < m
      · by_cases h2 : k < 80
        · have hki : (k : Int) < (n : Int) := by omega
          have hkmi : (k : Int) < (m : Int) := by omega
          have hk2i : (k : Int) < 80 := by omega
          obtain ⟨ba, oa, rfl, hcsa⟩ := HA.out.at_ (by omega)
          obtain ⟨bb, ob, rfl, hcsb⟩ := HB.out.at_ (by omega)
          have za := bounds_u32 (HA.out.wf hlt)
          have zb := bounds_u32 (HB.out.wf hltm)
          have ca0 := hcsa wr HE.out.2 k hlt
          have cb0 := hcsb wr HE.out.2 k hltm
          have ok := gauJ_ok (wayJ cs ss) (wayJ_bd cs ss) k
          have ok1 := gauJ_ok (wayJ cs ss) (wayJ_bd cs ss) (k + 1)
          have hx := gauJ_x (wayJ cs ss) (k + 1)
          have hc := gauJ_c (wayJ cs ss) (k + 1)
          have ht : takJ (gauJ (wayJ cs ss) k) ((cs.getD k 0 - ss.getD k 0) % 4294967296) = gauJ (wayJ cs ss) (k + 1) := rfl
          have T := Lib.hid (tak_isJ _ _ _ _ ht (ok.mono (by omega)) za.1 za.2 zb.1 zb.2 g)
          have hsx := sixJ_bd (wayJ cs ss) (k + 1)
          have N1 := Lib.hid (fun wx (h : GauAt wx g (gauJ (wayJ cs ss) (k + 1))) => now_anyJ g _ wx h ok1.x0 ok1.x1)
          have S1 := Lib.hid (fun wx (h : GauAt wx g (gauJ (wayJ cs ss) (k + 1))) => sixteen_anyJ g _ wx h)
          have C1 := Lib.hid (fun wx (h : GauAt wx g (gauJ (wayJ cs ss) (k + 1))) => count_anyJ g _ wx h)
          rw [hx] at N1 S1
          rw [hc, show ((k + 1 : Nat) : Int) = (k : Int) + 1 by omega] at C1
          have R1 : Hid (∀ wx, Below w.heap.size w wx → Calls Try.prog 8 #[.slice (some ⟨ba, oa, none⟩) (k + 1) ca, .slice (some ⟨bb, ob, none⟩) (k + 1) cb] wx fun e w' => e = .returned (.int .u64 (sixJ (wayJ cs ss) (k + 1))) ∧ Below wx.heap.size wx w') := Lib.hid fun wx hb => by
            have := rsixteen_any _ _ _ ca cb _ _ wx ((HA.out.below hb (Nat.le_refl _)).head (k + 1) (by omega)) ((HB.out.below hb (Nat.le_refl _)).head (k + 1) (by omega))
            rw [sixJ_take] at this
            exact this
          obtain ⟨x, hxx⟩ : ∃ x, x = sixJ (wayJ cs ss) (k + 1) := ⟨_, rfl⟩
          rw [← hxx] at hsx N1 S1 R1
          obtain ⟨K, hK⟩ : ∃ K, K = k + 1 := ⟨_, rfl⟩
          rw [← hK] at R1
          have hk1 : (k : Int) + 1 = (K : Int) := by omega
          rw [hk1] at C1
          have hkc : (K : Int) ≤ (ca : Int) := by omega
          have hkd : (K : Int) ≤ (cb : Int) := by omega
          have hk0 : (0 : Int) ≤ (K : Int) := by omega
          have hkw : IntKind.i64.wrap ((k : Int) + 1) = (K : Int) := by rw [hk1]; simp [IntKind.wrap, IntKind.bits, IntKind.signed]; omega
          have HK := Lib.hid hK
          have HK1 := Lib.hid hk1
          clear hK hk1
          generalize hqa : cs.getD k 0 = qa at *
          generalize hqb : ss.getD k 0 = qb at *
          clear hx hc hxx hcsa hcsb ok ok1 ht hqa hqb
          have HE1 := Lib.hid HE.out.1
          have HE2 := Lib.hid HE.out.2
          go_wp2
          go_region_law (go_simp; go_at_call 7; (with_reducible refine (Hid.out T _ HE1.out.drew).mono ?_); rintro e w3 ⟨rfl, h3, o3⟩)
          all_goals (
            have bb3 : Below w.heap.size w w3 := HE2.out.trans (Below.trans (b := wr.drew) ⟨rfl, rfl, rfl, Nat.le_refl _, fun _ _ => rfl⟩ (o3.below HG.out))
            go_wp2
            go_region_law (go_simp; go_at_call 8; (with_reducible refine (Hid.out R1 _ (below_drewJ bb3)).mono ?_); rintro e w4 ⟨rfl, b4⟩))
          all_goals (
            have b44 : Below w3.heap.size w3 w4 := Below.trans (b := w3.drew) ⟨rfl, rfl, rfl, Nat.le_refl _, fun _ _ => rfl⟩ b4
            have h4 := h3.below b44
            have bb4 := bb3.trans (b44.mono bb3.size)
            go_wp2_with (first
              | (go_at_call 9; ((with_reducible refine (Hid.out S1 _ h4).mono ?_); rintro e w5 ⟨rfl, rfl⟩))
              | (go_at_call 10; ((with_reducible refine (Hid.out N1 _ h4).mono ?_); rintro e w5 ⟨rfl, rfl⟩))
              | (go_at_call 11; ((with_reducible refine (Hid.out C1 _ h4).mono ?_); rintro e w6 ⟨rfl, rfl⟩)))
            go_roundw
            case rel => exact ⟨k + 1, by omega, by omega, by omega, by first | go_num | (have := HK1.out; go_num), Lib.hid ⟨h4, bb4⟩⟩
            case measure => have h9 := HK1.out; simp [intOf]; omega)
        · obtain rfl : k = 80 := by omega
          have hki : (80 : Int) < (n : Int) := by omega
          have hkmi : (80 : Int) < (m : Int) := by omega
          go_wp2
          go_ret
          exact ⟨rfl, HE.out.2⟩
      · obtain rfl : k = m := by omega
        have hki : (k : Int) < (n : Int) := by omega
        go_wp2
        go_ret
        exact ⟨rfl, HE.out.2⟩
    · obtain rfl : k = n := by omega
      go_wp2
      go_ret
      exact ⟨rfl, HE.out.2⟩
end Go.Proofs.Ytmajgnnljlkjhaa
