/- StreamCiphers's walk: any bytes ciphered by any key and counter are the document's; ciphered twice they are what they were. -/
import Derived.Test.YtbimpejeoidafaaStrLaw
import Derived.Test.YtbimpejeoidafaaReg
namespace Go.Proofs.Ytbimpejeoidafaa
open Go.RowKit
set_option linter.unusedVariables false

/-- What is there all along: the key, the counter, the bytes, the bytes ciphered. -/
structure CEnv (w : World) (key c : List UInt8) (A : Option Addr) (n cap : Nat) (bs : List UInt8) (A1 : Option Addr) (c1 : Nat) (xs : List UInt8) (wr : World) : Prop where
  k : Blk wr w.heap.size 25 key
  c : Blk wr (w.heap.size + 1) 25 c
  s : RdS wr A n cap bs
  x : RdS wr A1 n c1 xs
  b : Below w.heap.size w wr
theorem CEnv.below {w : World} {key c : List UInt8} {A : Option Addr} {n cap : Nat} {bs : List UInt8} {A1 : Option Addr} {c1 : Nat} {xs : List UInt8} {wr w' : World} (h : CEnv w key c A n cap bs A1 c1 xs wr) (hb : Below wr.heap.size wr w') : CEnv w key c A n cap bs A1 c1 xs w' :=
  ⟨h.k.below hb h.k.lt, h.c.below hb h.c.lt, h.s.below hb, h.x.below hb, h.b.trans (hb.mono h.b.size)⟩

set_option maxRecDepth 100000 in
set_option maxHeartbeats 2000000 in
theorem streamCiphers_rd (key c : List UInt8) (A : Option Addr) (n cap : Nat) (bs : List UInt8) (w : World) (hk : key.length = 16) (hc : c.length = 16) (hr : RdS w A n cap bs) :
    Calls Try.prog 4 #[.agg (cells key).toArray, .agg (cells c).toArray, .slice A n cap] w fun e w' => e = .returned (.bool true) ∧ Below w.heap.size w w' := by
  obtain ⟨hb0, h0, h1⟩ := boxes2 w key c
  have hsm := hr.small
  by_cases hbig : 400 < n
  · have hd : decide ((400 : Int) < (n : Int)) = true := by simp; omega
    go_enter Try.func4, Try.ntmps4
    go_wp2_with (first
      | (go_at_call 6; ((with_reducible refine (aliveS_any _).mono ?_); rintro e w1 ⟨rfl, hb1⟩)))
    go_ret
    exact ⟨rfl, hb0.trans (hb1.mono hb0.size)⟩
  · have hd : decide ((400 : Int) < (n : Int)) = false := by simp; omega
    have HKL : Hid ((cells key).length = 16) := Lib.hid (by rw [length_cells, hk])
    have HCL : Hid ((cells c).length = 16) := Lib.hid (by rw [length_cells, hc])
    have hn4 : n ≤ 4096 := by omega
    have hl := hr.len
    have hci := fun wx (h : RdS wx A n cap bs) => cipher_any key c A n cap bs wx hk hc h hn4
    have hrc := fun wx (h : RdS wx A n cap bs) => rcipher_any key c A n cap bs wx hk hc h hn4
    have hc2 := fun wx A1 c1 (h : RdS wx A1 n c1 (cph key c bs)) => cipher_any key c A1 n c1 (cph key c bs) wx hk hc h hn4
    simp only [cph_twice] at hc2
    obtain ⟨xs, hx⟩ : ∃ xs, xs = cph key c bs := ⟨_, rfl⟩
    simp only [← hx] at hci hrc hc2
    have HCI := Lib.hid hci
    have HRC := Lib.hid hrc
    have HC2 := Lib.hid hc2
    have hr0 := hr.below hb0
    obtain ⟨T, hT⟩ : ∃ T, T = txt bs := ⟨_, rfl⟩
    obtain ⟨X, hX⟩ : ∃ X, X = txt xs := ⟨_, rfl⟩
    have hcs : ∀ (wx : World) (A : Option Addr) (n c : Nat), RdS wx A n c bs → (convert 31 9 (.slice A n c)).run Try.prog wx = .ok (.string T) wx := fun wx A n c h => hT ▸ conv_rdS h
    have hcx : ∀ (wx : World) (A : Option Addr) (n c : Nat), RdS wx A n c xs → (convert 31 9 (.slice A n c)).run Try.prog wx = .ok (.string X) wx := fun wx A n c h => hX ▸ conv_rdS h
    have HCS := Lib.hid hcs
    have HCX := Lib.hid hcx
    clear hci hrc hc2 hx hk hc hT hX hcs hcx hl
    go_enter Try.func4, Try.ntmps4
    go_wp2_with (first
      | (go_at_call 6; ((with_reducible refine (aliveS_any _).mono ?_); rintro e w1 ⟨rfl, hb1⟩; have hr1 := hr0.below hb1; have k1 := h0.below hb1 h0.lt; have c1 := h1.below hb1 h1.lt; have hb1w := hb0.trans (hb1.mono hb0.size); have hcv := HCS.out w1 A n cap hr1))
      | (with_reducible refine wpList_ld rfl 25 (.tmp 3) rfl w.heap.size 0 rfl (cells key) (k1.v.range 0 _ (by simp)) (row16 HKL.out) ?_)
      | (with_reducible refine wpList_ld rfl 25 (.tmp 4) rfl (w.heap.size + 1) 0 rfl (cells c) (c1.v.range 0 _ (by simp)) (row16 HCL.out) ?_)
      | (go_at_call 11; ((with_reducible refine (HCI.out w1 hr1).mono ?_); rintro e w2 ⟨v2, rfl, hown2, hb2⟩; obtain ⟨A2, c2, hv2⟩ := own_form hown2; subst hv2)))
    have hS0 : CEnv w key c A n cap bs A2 c2 xs w2 := ⟨k1.below hb2 k1.lt, c1.below hb2 c1.lt, hr1.below hb2, RdS.of_own hown2, hb1w.trans (hb2.mono hb1w.size)⟩
    have hS : CEnv w key c A n cap bs A2 c2 xs w2.drew := hS0.below ((Below.refl _ _).drew)
    clear hS0 hown2 hb2 k1 c1 hr1 hb1w hcv hb1 hr0 h0 h1 hb0
    refine wp_region_noPanic ?_
    refine wp_region_held (S := CEnv w key c A n cap bs A2 c2 xs) (by kernel_rfl) ?_
    change wpAnyH _ _ _ _ _ _ _ _ (World.drew _)
    generalize w2.drew = w3 at *
    refine wpAnyH_take (i := 0) (v := ?_) rfl (by kernel_rfl) (by kernel_rfl) (by kernel_rfl) (fun _ _ _ h => h) (Or.inl ⟨by rfl, ?_⟩) hS ?_
    case refine_2 => (intro wz hz; go_simp; with_reducible rfl)
    simp only [Act.put, List.getElem_toArray, List.getElem_cons_zero, List.setIfInBounds_toArray, List.set_cons_succ, List.set_cons_zero]
    refine wpAnyH_take (i := 1) (v := ?_) rfl (by kernel_rfl) (by kernel_rfl) (by kernel_rfl) (fun _ _ _ h => h) (Or.inl ⟨by rfl, ?_⟩) hS ?_
    case refine_2 => (intro wz hz; have hq := HCX.out wz A2 n c2 hz.x; go_simp; with_reducible rfl)
    simp only [Act.put, List.getElem_toArray, List.getElem_cons_succ, List.getElem_cons_zero, List.setIfInBounds_toArray, List.set_cons_succ, List.set_cons_zero]
    refine wpAnyH_take (i := 2) (v := .agg (cells key).toArray) rfl (by kernel_rfl) (by kernel_rfl) (by kernel_rfl) (fun _ _ _ h => h) (Or.inl ⟨by rfl, fun wz hz => ?_⟩) hS ?_
    · exact run_ld 25 _ rfl w.heap.size 0 (by rfl) (cells key) (hz.k.v.range 0 _ (by simp)) (row16 HKL.out)
    simp only [Act.put, List.getElem_toArray, List.getElem_cons_succ, List.getElem_cons_zero, List.setIfInBounds_toArray, List.set_cons_succ, List.set_cons_zero]
    refine wpAnyH_take (i := 3) (v := .agg (cells c).toArray) rfl (by kernel_rfl) (by kernel_rfl) (by kernel_rfl) (fun _ _ _ h => h) (Or.inl ⟨by rfl, fun wz hz => ?_⟩) hS ?_
    · exact run_ld 25 _ rfl (w.heap.size + 1) 0 (by rfl) (cells c) (hz.c.v.range 0 _ (by simp)) (row16 HCL.out)
    simp only [Act.put, List.getElem_toArray, List.getElem_cons_succ, List.getElem_cons_zero, List.setIfInBounds_toArray, List.set_cons_succ, List.set_cons_zero]
    refine wpAnyH_take (i := 4) (v := ?_) rfl (by kernel_rfl) (by kernel_rfl) (by kernel_rfl) (fun _ _ _ h => h) (Or.inl ⟨by rfl, ?_⟩) hS ?_
    case refine_2 => (intro wz hz; go_simp; with_reducible rfl)
    simp only [Act.put, List.getElem_toArray, List.getElem_cons_succ, List.getElem_cons_zero, List.setIfInBounds_toArray, List.set_cons_succ, List.set_cons_zero]
    refine anyH_one (i := 5) (by kernel_rfl) rfl rfl (fun H hH => ?_)
    simp only [List.getElem_toArray, List.getElem_cons_succ, List.getElem_cons_zero]
    go_simp
    refine (HRC.out w3 hS.s).mono ?_
    rintro e w4 ⟨v4, rfl, hown4, hb4⟩
    obtain ⟨A4, c4, rfl⟩ := own_form hown4
    have hS4 := hS.below hb4
    have hq4 := HCX.out w4 A4 n c4 (RdS.of_own hown4)
    refine hH _ _ hS4 ?_
    clear hH H hb4 hown4
    refine anyH_one (i := 6) (by kernel_rfl) rfl rfl (fun H hH => ?_)
    simp only [List.getElem_toArray, List.getElem_cons_succ, List.getElem_cons_zero]
    go_simp
    refine hH _ _ hS4 ?_
    clear hH H hq4
    refine wpAnyH_take (i := 7) (v := ?_) rfl (by kernel_rfl) (by kernel_rfl) (by kernel_rfl) (fun _ _ _ h => h) (Or.inl ⟨by rfl, ?_⟩) hS4 ?_
    case refine_2 => (intro wz hz; go_simp; with_reducible rfl)
    simp only [Act.put, List.getElem_toArray, List.getElem_cons_succ, List.getElem_cons_zero, List.setIfInBounds_toArray, List.set_cons_succ, List.set_cons_zero]
    refine wpAnyH_take (i := 8) (v := ?_) rfl (by kernel_rfl) (by kernel_rfl) (by kernel_rfl) (fun _ _ _ h => h) (Or.inl ⟨by rfl, ?_⟩) hS4 ?_
    case refine_2 => (intro wz hz; go_simp; with_reducible rfl)
    simp only [Act.put, List.getElem_toArray, List.getElem_cons_succ, List.getElem_cons_zero, List.setIfInBounds_toArray, List.set_cons_succ, List.set_cons_zero]
    refine wpAnyH_take (i := 9) (v := .agg (cells key).toArray) rfl (by kernel_rfl) (by kernel_rfl) (by kernel_rfl) (fun _ _ _ h => h) (Or.inl ⟨by rfl, fun wz hz => ?_⟩) hS4 ?_
    · exact run_ld 25 _ rfl w.heap.size 0 (by rfl) (cells key) (hz.k.v.range 0 _ (by simp)) (row16 HKL.out)
    simp only [Act.put, List.getElem_toArray, List.getElem_cons_succ, List.getElem_cons_zero, List.setIfInBounds_toArray, List.set_cons_succ, List.set_cons_zero]
    refine wpAnyH_take (i := 10) (v := .agg (cells c).toArray) rfl (by kernel_rfl) (by kernel_rfl) (by kernel_rfl) (fun _ _ _ h => h) (Or.inl ⟨by rfl, fun wz hz => ?_⟩) hS4 ?_
    · exact run_ld 25 _ rfl (w.heap.size + 1) 0 (by rfl) (cells c) (hz.c.v.range 0 _ (by simp)) (row16 HCL.out)
    simp only [Act.put, List.getElem_toArray, List.getElem_cons_succ, List.getElem_cons_zero, List.setIfInBounds_toArray, List.set_cons_succ, List.set_cons_zero]
    refine wpAnyH_take (i := 11) (v := ?_) rfl (by kernel_rfl) (by kernel_rfl) (by kernel_rfl) (fun _ _ _ h => h) (Or.inl ⟨by rfl, ?_⟩) hS4 ?_
    case refine_2 => (intro wz hz; go_simp; with_reducible rfl)
    simp only [Act.put, List.getElem_toArray, List.getElem_cons_succ, List.getElem_cons_zero, List.setIfInBounds_toArray, List.set_cons_succ, List.set_cons_zero]
    refine wpAnyH_take (i := 14) (v := ?_) rfl (by kernel_rfl) (by kernel_rfl) (by kernel_rfl) (fun _ _ _ h => h) (Or.inl ⟨by rfl, ?_⟩) hS4 ?_
    case refine_2 => (intro wz hz; go_simp; with_reducible rfl)
    simp only [Act.put, List.getElem_toArray, List.getElem_cons_succ, List.getElem_cons_zero, List.setIfInBounds_toArray, List.set_cons_succ, List.set_cons_zero]
    refine anyH_oneG (i := 12) (by kernel_rfl) rfl (by rfl) (fun H hH => ?_)
    simp only [List.getElem_toArray, List.getElem_cons_succ, List.getElem_cons_zero]
    go_simp
    refine (HC2.out w4 A2 c2 hS4.x).mono ?_
    rintro e w5 ⟨v5, rfl, hown5, hb5⟩
    obtain ⟨A5, c5, rfl⟩ := own_form hown5
    have hS5 := hS4.below hb5
    have hq5 := HCS.out w5 A5 n c5 (RdS.of_own hown5)
    refine hH _ _ hS5 ?_
    clear hH H hb5 hown5
    refine anyH_oneG (i := 13) (by kernel_rfl) rfl (by rfl) (fun H hH => ?_)
    simp only [List.getElem_toArray, List.getElem_cons_succ, List.getElem_cons_zero]
    go_simp
    refine hH _ _ hS5 ?_
    clear hH H hq5
    refine wpAnyH_take (i := 15) (v := ?_) rfl (by kernel_rfl) (by kernel_rfl) (by kernel_rfl) (fun _ _ _ h => h) (Or.inl ⟨by rfl, ?_⟩) hS5 ?_
    case refine_2 => (intro wz hz; go_simp; with_reducible rfl)
    simp only [Act.put, List.getElem_toArray, List.getElem_cons_succ, List.getElem_cons_zero, List.setIfInBounds_toArray, List.set_cons_succ, List.set_cons_zero]
    refine wpAnyH_take (i := 16) (v := ?_) rfl (by kernel_rfl) (by kernel_rfl) (by kernel_rfl) (fun _ _ _ h => h) (Or.inl ⟨by rfl, ?_⟩) hS5 ?_
    case refine_2 => (intro wz hz; go_simp; with_reducible rfl)
    simp only [Act.put, List.getElem_toArray, List.getElem_cons_succ, List.getElem_cons_zero, List.setIfInBounds_toArray, List.set_cons_succ, List.set_cons_zero]
    refine wpAnyH_take (i := 17) (v := ?_) rfl (by kernel_rfl) (by kernel_rfl) (by kernel_rfl) (fun _ _ _ h => h) (Or.inl ⟨by rfl, ?_⟩) hS5 ?_
    case refine_2 => (intro wz hz; go_simp; with_reducible rfl)
    simp only [Act.put, List.getElem_toArray, List.getElem_cons_succ, List.getElem_cons_zero, List.setIfInBounds_toArray, List.set_cons_succ, List.set_cons_zero]
    refine wpAnyH_take (i := 18) (v := ?_) rfl (by kernel_rfl) (by kernel_rfl) (by kernel_rfl) (fun _ _ _ h => h) (Or.inl ⟨by rfl, ?_⟩) hS5 ?_
    case refine_2 => (intro wz hz; go_simp; with_reducible rfl)
    simp only [Act.put, List.getElem_toArray, List.getElem_cons_succ, List.getElem_cons_zero, List.setIfInBounds_toArray, List.set_cons_succ, List.set_cons_zero]
    refine wpAnyH_take (i := 19) (v := ?_) rfl (by kernel_rfl) (by kernel_rfl) (by kernel_rfl) (fun _ _ _ h => h) (Or.inl ⟨by rfl, ?_⟩) hS5 ?_
    case refine_2 => (intro wz hz; have hq := HCS.out wz A n cap hz.s; go_simp; with_reducible rfl)
    simp only [Act.put, List.getElem_toArray, List.getElem_cons_succ, List.getElem_cons_zero, List.setIfInBounds_toArray, List.set_cons_succ, List.set_cons_zero]
    refine wpAnyH_take (i := 20) (v := ?_) rfl (by kernel_rfl) (by kernel_rfl) (by kernel_rfl) (fun _ _ _ h => h) (Or.inl ⟨by rfl, ?_⟩) hS5 ?_
    case refine_2 => (intro wz hz; go_simp; with_reducible rfl)
    simp only [Act.put, List.getElem_toArray, List.getElem_cons_succ, List.getElem_cons_zero, List.setIfInBounds_toArray, List.set_cons_succ, List.set_cons_zero]
    refine wpAnyH_take (i := 21) (v := ?_) rfl (by kernel_rfl) (by kernel_rfl) (by kernel_rfl) (fun _ _ _ h => h) (Or.inl ⟨by rfl, ?_⟩) hS5 ?_
    case refine_2 => (intro wz hz; go_simp; with_reducible rfl)
    simp only [Act.put, List.getElem_toArray, List.getElem_cons_succ, List.getElem_cons_zero, List.setIfInBounds_toArray, List.set_cons_succ, List.set_cons_zero]
    refine wpAnyH_take (i := 22) (v := ?_) rfl (by kernel_rfl) (by kernel_rfl) (by kernel_rfl) (fun _ _ _ h => h) (Or.inl ⟨by rfl, ?_⟩) hS5 ?_
    case refine_2 => (intro wz hz; go_simp; with_reducible rfl)
    simp only [Act.put, List.getElem_toArray, List.getElem_cons_succ, List.getElem_cons_zero, List.setIfInBounds_toArray, List.set_cons_succ, List.set_cons_zero]
    refine wpAnyH_take (i := 23) (v := ?_) rfl (by kernel_rfl) (by kernel_rfl) (by kernel_rfl) (fun _ _ _ h => h) (Or.inl ⟨by rfl, ?_⟩) hS5 ?_
    case refine_2 => (intro wz hz; go_simp; with_reducible rfl)
    simp only [Act.put, List.getElem_toArray, List.getElem_cons_succ, List.getElem_cons_zero, List.setIfInBounds_toArray, List.set_cons_succ, List.set_cons_zero]
    refine wpAnyH_done (by kernel_rfl) ?_ _
    refine NoPanic.normal ?_
    go_wp2
    go_ret
    exact ⟨rfl, hS5.b⟩
end Go.Proofs.Ytbimpejeoidafaa
