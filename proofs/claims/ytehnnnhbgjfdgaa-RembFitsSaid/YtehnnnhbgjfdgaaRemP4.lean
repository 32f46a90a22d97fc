/- Contracts of package remb: the sharing; what the laws ask, brought together. No statement is proved here. -/
import Derived.Test.YtehnnnhbgjfdgaaRemP3
import Derived.Test.YtehnnnhbgjfdgaaRemL1
import Derived.LoopTactic
import Derived.Deep.DeepCutAuto
import Derived.Deep.CutBlock
namespace Go.Proofs.Ytehnnnhbgjfdgaa
open Go.RowKit
set_option linter.unusedVariables false

theorem int_info25p : (Try.prog.info? 3).map (fun i => (i.zero, i.size, i.bytes)) = some (some (.int .i64 0), 1, 8) := by kernel_rfl
theorem fill_step25 (k n : Nat) (a b : Int) (h : k < n) : (List.replicate k a ++ List.replicate (n - k) b).set k a = List.replicate (k + 1) a ++ List.replicate (n - (k + 1)) b := by
  rw [List.set_append_right _ _ (by simp), List.length_replicate, Nat.sub_self, show n - k = (n - (k + 1)) + 1 by omega, List.replicate_succ (n := n - (k + 1)), List.set_cons_zero, List.replicate_succ' (n := k), List.append_assoc]
  rfl
theorem tot_one {C : List (List Int)} (hC : OkC C) (L : List Int) {i n : Nat} (h : i < n) : cst (C.getD i []) (L.getD i 0) ≤ totR C L n := by
  induction n with
  | zero => omega
  | succ n ih =>
    have h0 := (cst_ok (okC_row hC n) (L.getD n 0)).1
    have h1 := totR_pos hC L n
    simp only [totR]
    rcases Nat.lt_or_ge i n with h2 | h2
    · have := ih h2
      omega
    · obtain rfl : i = n := by omega
      omega
theorem lft_eq {x : Int} {C : List (List Int)} {O : List Int} {b : Nat} (hC : OkC C) (h : x + cst (C.getD b []) (O.getD b 0) ≤ 18446744073709551615) (hx : 0 ≤ x) : lftR x C O b = x + cst (C.getD b []) (O.getD b 0) - cst (C.getD b []) (O.getD b 0 + 1) := by
  have h1 := (cst_ok (okC_row hC b) (O.getD b 0 + 1)).1
  unfold lftR
  split
  · omega
  · rw [satN_add (by omega)]; omega
theorem mat_row25 {w : World} {b off : Nat} {C : List (List Int)} (h : MatRd w (some ⟨b, off, none⟩) C) {j : Nat} (hj : j < C.length) : ∃ R c, w.cell? ⟨b, off + j, none⟩ = some (.slice R (C.getD j []).length c) ∧ RdV w R (C.getD j []).length (C.getD j []) := by
  obtain ⟨b', off', R, c, hA, h1, h2⟩ := h.at_ hj
  injection hA with hA
  injection hA with e1 e2
  subst e1
  subst e2
  exact ⟨R, c, h1, h2⟩
theorem twoBel25 (w : World) (o o2 : Obj) : Below w.heap.size w ((w.alloc o).alloc o2) := ((Below.refl _ _).alloc (Nat.le_refl _) _).alloc (by show _ ≤ (w.heap.push o).size; simp) _
/-- What holds of the sharing under way. -/
structure Inv25 (C : List (List Int)) (rate : Int) (n : Nat) (x : Int) (O : List Int) : Prop where
  x0 : 0 ≤ x
  ok : OkO C O
  len : O.length = n
  tot : totR C O n + x ≤ rate
  shr : ∀ R, Shr C x O R → Shr C rate (List.replicate n (-1)) R
theorem Inv25.one {C : List (List Int)} {rate : Int} {n : Nat} {x : Int} {O : List Int} (h : Inv25 C rate n x O) (hC : OkC C) (h1 : rate ≤ 18446744073709551615) {i : Nat} (hi : i < n) : x + cst (C.getD i []) (O.getD i 0) ≤ 18446744073709551615 := by
  have := tot_one hC O (i := i) hi
  have := h.tot
  omega
theorem Inv25.step {C : List (List Int)} {rate : Int} {n : Nat} {x : Int} {O : List Int} (h : Inv25 C rate n x O) (hC : OkC C) (h1 : rate ≤ 18446744073709551615) {b : Nat} (hb : Nxt x C O b) : Inv25 C rate n (x + cst (C.getD b []) (O.getD b 0) - cst (C.getD b []) (O.getD b 0 + 1)) (O.set b (O.getD b 0 + 1)) := by
  have hbn : b < n := by rw [← h.len]; exact hb.1
  have ho := h.one hC h1 hbn
  have e := lft_eq hC ho h.x0
  have hf := hb.2.1.2.2.2
  rw [satN_add ho] at hf
  refine ⟨by omega, okO_step h.ok hb.1 hb.2.1, by rw [List.length_set]; exact h.len, ?_, fun R hR => h.shr R (.more b hb (by rw [e]; exact hR))⟩
  have := totR_set (C := C) hb.1 (O.getD b 0 + 1) n
  rw [this, if_pos hbn]
  have := h.tot
  omega
theorem nx_new25 {w wr : World} {q3 p m ca n : Nat} {A : Option Addr} {x : Int} {O : List Int} (ho : OutR w p 3 O wr) (hb : BlkV wr q3 24 [.slice (some ⟨p, 0, none⟩) n n]) (hne : q3 ≠ p) :
    Nx25 w wr.heap.size (wr.heap.size + 1) q3 p A m ca n x O ((wr.alloc (.cells #[.slice A m ca] 23)).alloc (.cells #[.int .u64 x] 22)) := by
  have h1 := ho.blk.lt
  have h2 := hb.lt
  have h3 := ho.below.size
  exact ⟨(BlkV.new wr 23 [.slice A m ca]).alloc _, BlkV.new_at _ _ _ _ _ (by simp) rfl, (hb.alloc _).alloc _, ⟨(ho.blk.alloc _).alloc _, (ho.below.alloc h3 _).alloc (by simp; omega) _, ho.own⟩, by omega, by omega, by omega, by omega, by omega, hne⟩
/-- The sharing under way, behind a look for who is next. -/
structure St25 (w : World) (q1 q2 p : Nat) (A : Option Addr) (m ca n : Nat) (C : List (List Int)) (rate : Int) (b : Nat) (f : Bool) (x : Int) (O : List Int) (wx : World) : Prop where
  nx : Nx25 w q1 q2 (p + 1) p A m ca n x O wx
  inv : Inv25 C rate n x O
  yes : f = true → Nxt x C O b
  no : f = false → Non x C O
set_option maxRecDepth 100000 in
set_option maxHeartbeats 8000000 in
/-- THE SHARING. -/
theorem share_any25 (A : Option Addr) (ca : Nat) (C : List (List Int)) (rate : Int) (w : World) (hr : MatRd w A C) (hca : C.length ≤ ca) (hn : C.length ≤ 1000) (h0 : 0 ≤ rate) (h1 : rate ≤ 18446744073709551615) :
    Calls Try.prog 8 #[.int .u64 rate, .slice A C.length ca] w fun e w' => e = .returned (.slice (some ⟨w.heap.size, 0, none⟩) C.length C.length) ∧ Hid (∃ R, Shr C rate (List.replicate C.length (-1)) R ∧ RdJ w' (some ⟨w.heap.size, 0, none⟩) C.length R ∧ Below w.heap.size w w') := by
  have hC := hr.ok
  have HC := Lib.hid hC
  have HM : Hid (∀ wx, Below w.heap.size w wx → MatRd wx A C) := Lib.hid (fun wx h => hr.below h)
  have HS0 := Lib.hid (okO_start C)
  have HT0 := Lib.hid (totR_start C C.length C.length (Nat.le_refl _))
  obtain ⟨n, hnn⟩ : ∃ n, n = C.length := ⟨_, rfl⟩
  have HN := Lib.hid hnn
  rw [← hnn] at hn hca HS0 HT0 ⊢
  have HB := Lib.hid (And.intro h0 h1)
  have hmk := run_makeI (P := Try.prog) Try.underlying24 int_info25p .i64 .i64 (n : Int) (n : Int) n rfl rfl (by omega) w
  have HF : Hid (OutR w w.heap.size 3 (List.replicate n 0) ((w.alloc (.cells (icells (List.replicate n 0)).toArray 3)).alloc (.cells #[.slice (some ⟨w.heap.size, 0, none⟩) n n] 24)) ∧ BlkV ((w.alloc (.cells (icells (List.replicate n 0)).toArray 3)).alloc (.cells #[.slice (some ⟨w.heap.size, 0, none⟩) n n] 24)) (w.heap.size + 1) 24 [.slice (some ⟨w.heap.size, 0, none⟩) n n]) :=
    Lib.hid ⟨⟨(BlkV.new w 3 (icells (List.replicate n 0))).alloc _, twoBel25 w _ _, Nat.le_refl _⟩, BlkV.new_at _ _ _ _ _ (by simp) rfl⟩
  clear hr hC hnn h0 h1
  obtain ⟨p, hp⟩ : ∃ p, p = w.heap.size := ⟨_, rfl⟩
  rw [← hp] at hmk HF ⊢
  have HP := Lib.hid hp
  by_cases g0 : (64 : Int) < (n : Int)
  · have hmn : 64 ≤ n := by omega
    have hmc : (64 : Int) ≤ (ca : Int) := by omega
    have HMM : Hid (64 = min n 64) := Lib.hid (by omega)
    have HNXT := Lib.hid (fun q1 q2 wx x O (h : Nx25 w q1 q2 (p + 1) p A 64 ca n x O wx) (hi : Inv25 C rate n x O) => next_any25 w q1 q2 (p + 1) p A ca n C x O wx 64 h (HM.out _ h.out.below) hi.ok HN.out hn HMM.out hi.x0 (fun i hk => hi.one HC.out HB.out.2 hk))
    have hmf : ∀ (fn : Fn) (first cap : Array Value) (w : World), (Instr.makeFunc fn first cap).run Try.prog w = .ok (.func fn first cap) w := fun _ _ _ _ => rfl
    clear hp
    go_enter Try.func8, Try.ntmps8
    go_wp2
    rw [show w.heap.size + 1 = p + 1 by rw [HP.out]]
    generalize (w.alloc (.cells (icells (List.replicate n 0)).toArray 3)).alloc (.cells #[.slice (some ⟨p, 0, none⟩) n n] 24) = w1 at *
    clear hmk
    go_loopw [17] (fun vi wr => ∃ k : Nat, k ≤ n ∧ vi = .int .i64 k ∧ Hid (OutR w p 3 (List.replicate k (-1) ++ List.replicate (n - k) 0) wr ∧ BlkV wr (p + 1) 24 [.slice (some ⟨p, 0, none⟩) n n])) (fun i _ => n - (intOf i).toNat)
    case atStart => exact ⟨0, by omega, rfl, Lib.hid (by simpa using HF.out)⟩
    case round =>
      clear HF
      obtain ⟨k, hk, rfl, HO⟩ := hrel
      have c3 : wr.cell? ⟨p + 1, 0, none⟩ = some (.slice (some ⟨p, 0, none⟩) n n) := HO.out.2.cell 0
      by_cases g1 : k < n
      · have g1i : (k : Int) < (n : Int) := by omega
        have hcell := HO.out.1.at_ (k := k) (by simp; omega)
        have hfr := HO.out.1.free (k := k)
        have HX : Hid (OutR w p 3 (List.replicate (k + 1) (-1) ++ List.replicate (n - (k + 1)) 0) (wr.setCell ⟨p, k, none⟩ (.int .i64 (-1))) ∧ BlkV (wr.setCell ⟨p, k, none⟩ (.int .i64 (-1))) (p + 1) 24 [.slice (some ⟨p, 0, none⟩) n n]) := Lib.hid (by
          have := HO.out.1.set_ (k := k) (-1)
          rw [fill_step25 k n (-1) 0 g1] at this
          exact ⟨this, HO.out.2.far (p := ⟨p, k, none⟩) (by simp) _⟩)
        generalize (List.replicate k (-1 : Int) ++ List.replicate (n - k) 0).getD k 0 = y at *
        clear HO
        go_wp2
        go_roundw
        case rel => exact ⟨k + 1, by omega, by go_num, HX⟩
        case measure => (simp [intOf]; try omega)
      · have g1i : ¬ (k : Int) < (n : Int) := by omega
        obtain rfl : n = k := by omega
        have HO2 : Hid (OutR w p 3 (List.replicate n (-1)) wr ∧ BlkV wr (p + 1) 24 [.slice (some ⟨p, 0, none⟩) n n]) := Lib.hid (by simpa using HO.out)
        have hnx := nx_new25 (A := A) (m := 64) (ca := ca) (x := rate) HO2.out.1 HO2.out.2 (by omega)
        have hinv : Inv25 C rate n rate (List.replicate n (-1)) := ⟨HB.out.1, HS0.out, by simp, by rw [HT0.out]; omega, fun R h => h⟩
        have PN := Lib.hid (HNXT.out _ _ _ _ _ hnx hinv)
        have HNX := Lib.hid hnx
        have HINV := Lib.hid hinv
        clear HO HO2 hnx hinv
        go_wp2_with (go_at_call 13; ((with_reducible refine (Hid.out PN).mono ?_); rintro e w2 ⟨b, f, rfl, hk1, hk2, q, rfl⟩; have HST := Lib.hid (St25.mk (w := w) (rate := rate) (Nx25.drewN HNX.out q) HINV.out hk1 hk2); clear PN HNX HINV hk1 hk2))
        clear c3 hk
        generalize hs : wr.heap.size = s at *
        generalize hs2 : s + 1 = s2 at *
        generalize ((wr.alloc (.cells #[.slice A 64 ca] 23)).alloc (.cells #[.int .u64 rate] 22)).drewN q = w2 at *
        clear hs hs2
        go_loopw [10, 11] (fun vi vk wr => ∃ (b : Nat) (f : Bool) (x : Int) (O : List Int), vi = .int .i64 b ∧ vk = .bool f ∧ Hid (St25 w s s2 p A 64 ca n C rate b f x O wr)) (fun _ _ wr => mesO (rowOf wr p))
        case atStart => exact ⟨b, f, rate, _, rfl, rfl, HST⟩
        case round =>
          clear HST
          obtain ⟨b, f, x, O, rfl, rfl, HST⟩ := hrel
          have c3 := HST.out.nx.c3
          cases f with
          | false =>
            have HR : Hid (∃ R, Shr C rate (List.replicate n (-1)) R ∧ RdJ wr (some ⟨p, 0, none⟩) n R ∧ Below w.heap.size w wr) := Lib.hid ⟨O, HST.out.inv.shr O (.done (HST.out.no rfl)), by have := HST.out.nx.out.rd; rwa [HST.out.inv.len] at this, HST.out.nx.out.below⟩
            go_wp2
            go_ret
            exact ⟨rfl, by have := HP.out; subst this; exact HR⟩
          | true =>
            have hnx := HST.out.yes rfl
            have hlen := HST.out.inv.len
            have hbn : b < n := by have := hnx.1; omega
            have hbi : (b : Int) < (n : Int) := by omega
            have hbd := HST.out.inv.ok.2 b (by omega)
            have hy8 := hnx.2.1.2.2.1
            have ho := HST.out.inv.one HC.out HB.out.2 hbn
            have HINV2 := Lib.hid (HST.out.inv.step HC.out HB.out.2 hnx)
            have hx2 := HINV2.out.x0
            have hx0 := HST.out.inv.x0
            have c2 := HST.out.nx.c2
            have f2 := HST.out.nx.f2
            have c4 := HST.out.nx.out.at_ (k := b) (by omega)
            obtain ⟨b0, off, R, cr, rfl, hc, hrow⟩ := (HM.out _ HST.out.nx.out.below).at_ (j := b) (by have := HN.out; omega)
            have hcc := cst_ok hrow.2.2.1 (O.getD b 0)
            have hcd := cst_ok hrow.2.2.1 (O.getD b 0 + 1)
            have HROW : Hid (∀ wx, RdV wx R (C.getD b []).length (C.getD b []) → Calls Try.prog 15 #[.slice R (C.getD b []).length cr, .int .i64 (O.getD b 0)] wx fun e w' => e = .returned (.int .u64 (cst (C.getD b []) (O.getD b 0))) ∧ wx = w') := Lib.hid (fun wx h => cost_any25 R (C.getD b []).length cr (C.getD b []) (O.getD b 0) wx h (by omega))
            have HRD := Lib.hid hrow
            have HNX := Lib.hid HST.out.nx
            have HME : Hid (∀ wx, OutR w p 3 (O.set b (O.getD b 0 + 1)) wx → mesO (rowOf wx p) < mesO (rowOf wr p)) := Lib.hid (fun wx h => by rw [h.row, HST.out.nx.out.row]; exact mesO_step hnx.1 hnx.2.1)
            obtain ⟨y, hy⟩ : ∃ y, O.getD b 0 = y := ⟨_, rfl⟩
            have HY := Lib.hid hy
            rw [hy] at HME HINV2 c4 hcc hcd HROW hbd hy8 ho hx2
            clear hy
            obtain ⟨d, hd⟩ : ∃ d, cst (C.getD b []) (y + 1) = d := ⟨_, rfl⟩
            have HD := Lib.hid hd
            rw [hd] at hcd HINV2 hx2
            clear hd
            obtain ⟨nr, hnr⟩ : ∃ nr, (C.getD b []).length = nr := ⟨_, rfl⟩
            have HL := Lib.hid hnr
            rw [hnr] at hc HROW HRD
            clear hnr
            generalize cst (C.getD b []) y = c at *
            have hw1 : IntKind.u64.wrap (x + c) = x + c := by rw [IntKind.wrap_u64]; omega
            clear hrow hnx HST
            go_wp2
            go_upto_region 12 with (fail)
            go_cut [] (fun wx => Hid (Nx25 w s s2 (p + 1) p (some ⟨b0, off, none⟩) 64 ca n (x + c) O wx))
            case first =>
              go_region_law (first
                | (go_simp; go_at_call 15; ((with_reducible refine (HROW.out _ ?_).mono ?_); exact HRD.out; rintro e w' ⟨rfl, rfl⟩)))
              all_goals (go_wp2_with fail; go_meet; exact Lib.hid (HNX.out.setx (x + c)).drew)
            case rest =>
              clear c2 f2 c3 c4 hc HNX HRD HROW
              have HNX := hcut
              clear hcut
              have c3 := HNX.out.c3
              have c4 : wc.cell? ⟨p, b, none⟩ = some (.int .i64 y) := by have := HNX.out.out.at_ (k := b) (by omega); rwa [HY.out] at this
              have f4 := HNX.out.out.free (k := b)
              have HNX2 := Lib.hid (HNX.out.setk b (y + 1))
              obtain ⟨O2, hO2⟩ : ∃ O2, O2 = O.set b (y + 1) := ⟨_, rfl⟩
              rw [← hO2] at HNX2 HINV2 HME
              have HY2 : Hid (O2.getD b 0 = y + 1 ∧ O2.length = n) := Lib.hid (by rw [hO2, List.length_set]; exact ⟨by simp [List.getD, show b < O.length by omega], hlen⟩)
              clear hO2
              generalize hW : wc.setCell ⟨p, b, none⟩ (.int .i64 (y + 1)) = W2 at *
              clear HNX
              have c2 := HNX2.out.c2
              have f2 := HNX2.out.f2
              have d3 := HNX2.out.c3
              have d4 : W2.cell? ⟨p, b, none⟩ = some (.int .i64 (y + 1)) := by have := HNX2.out.out.at_ (k := b) (by have := HY2.out.2; omega); rwa [HY2.out.1] at this
              obtain ⟨R2, cr2, hc2, hrow2⟩ := mat_row25 (HM.out _ HNX2.out.out.below) (j := b) (by have := HN.out; omega)
              have HROW : Hid (∀ wx, RdV wx R2 (C.getD b []).length (C.getD b []) → Calls Try.prog 15 #[.slice R2 (C.getD b []).length cr2, .int .i64 (y + 1)] wx fun e w' => e = .returned (.int .u64 d) ∧ wx = w') := Lib.hid (fun wx h => by have := cost_any25 R2 (C.getD b []).length cr2 (C.getD b []) (y + 1) wx h (by omega); rwa [HD.out] at this)
              have HRD := Lib.hid hrow2
              clear hrow2
              rw [HL.out] at HROW HRD hc2
              have hw2 : IntKind.u64.wrap (x + c - d) = x + c - d := by rw [IntKind.wrap_u64]; omega
              have hw3 : IntKind.i64.wrap (y + 1) = y + 1 := by rw [IntKind.wrap_i64]; omega
              go_upto_region 14 with (fail)
              clear c3 c4 f4 hW
              have HNX3 := Lib.hid (HNX2.out.setx (x + c - d)).drew
              have PN := Lib.hid (HNXT.out _ _ _ _ _ HNX3.out HINV2.out)
              go_region_law (first
                | (go_simp; go_at_call 15; ((with_reducible refine (HROW.out _ ?_).mono ?_); exact HRD.out; rintro e w' ⟨rfl, rfl⟩)))
              all_goals clear c2 f2 d3 d4 hc2 HROW HRD HNX2
              all_goals (go_wp2_with (go_at_call 13; ((with_reducible refine (Hid.out PN).mono ?_); rintro e w2 ⟨b2, f2, rfl, hk1, hk2, q, hq⟩; have HST := Lib.hid (St25.mk (w := w) (rate := rate) (hq ▸ Nx25.drewN HNX3.out q) HINV2.out hk1 hk2); clear PN hk1 hk2 hq)))
              all_goals go_roundw
              all_goals (first | exact ⟨b2, f2, _, O2, rfl, rfl, HST⟩ | exact HME.out _ HST.out.nx.out)
  · have hmn : n ≤ n := by omega
    have hmc : (n : Int) ≤ (ca : Int) := by omega
    have HMM : Hid (n = min n 64) := Lib.hid (by omega)
    have HNXT := Lib.hid (fun q1 q2 wx x O (h : Nx25 w q1 q2 (p + 1) p A n ca n x O wx) (hi : Inv25 C rate n x O) => next_any25 w q1 q2 (p + 1) p A ca n C x O wx n h (HM.out _ h.out.below) hi.ok HN.out hn HMM.out hi.x0 (fun i hk => hi.one HC.out HB.out.2 hk))
    have hmf : ∀ (fn : Fn) (first cap : Array Value) (w : World), (Instr.makeFunc fn first cap).run Try.prog w = .ok (.func fn first cap) w := fun _ _ _ _ => rfl
    clear hp
    go_enter Try.func8, Try.ntmps8
    go_wp2
    rw [show w.heap.size + 1 = p + 1 by rw [HP.out]]
    generalize (w.alloc (.cells (icells (List.replicate n 0)).toArray 3)).alloc (.cells #[.slice (some ⟨p, 0, none⟩) n n] 24) = w1 at *
    clear hmk
    go_loopw [17] (fun vi wr => ∃ k : Nat, k ≤ n ∧ vi = .int .i64 k ∧ Hid (OutR w p 3 (List.replicate k (-1) ++ List.replicate (n - k) 0) wr ∧ BlkV wr (p + 1) 24 [.slice (some ⟨p, 0, none⟩) n n])) (fun i _ => n - (intOf i).toNat)
    case atStart => exact ⟨0, by omega, rfl, Lib.hid (by simpa using HF.out)⟩
    case round =>
      clear HF
      obtain ⟨k, hk, rfl, HO⟩ := hrel
      have c3 : wr.cell? ⟨p + 1, 0, none⟩ = some (.slice (some ⟨p, 0, none⟩) n n) := HO.out.2.cell 0
      by_cases g1 : k < n
      · have g1i : (k : Int) < (n : Int) := by omega
        have hcell := HO.out.1.at_ (k := k) (by simp; omega)
        have hfr := HO.out.1.free (k := k)
        have HX : Hid (OutR w p 3 (List.replicate (k + 1) (-1) ++ List.replicate (n - (k + 1)) 0) (wr.setCell ⟨p, k, none⟩ (.int .i64 (-1))) ∧ BlkV (wr.setCell ⟨p, k, none⟩ (.int .i64 (-1))) (p + 1) 24 [.slice (some ⟨p, 0, none⟩) n n]) := Lib.hid (by
          have := HO.out.1.set_ (k := k) (-1)
          rw [fill_step25 k n (-1) 0 g1] at this
          exact ⟨this, HO.out.2.far (p := ⟨p, k, none⟩) (by simp) _⟩)
        generalize (List.replicate k (-1 : Int) ++ List.replicate (n - k) 0).getD k 0 = y at *
        clear HO
        go_wp2
        go_roundw
        case rel => exact ⟨k + 1, by omega, by go_num, HX⟩
        case measure => (simp [intOf]; try omega)
      · have g1i : ¬ (k : Int) < (n : Int) := by omega
        obtain rfl : n = k := by omega
        have HO2 : Hid (OutR w p 3 (List.replicate n (-1)) wr ∧ BlkV wr (p + 1) 24 [.slice (some ⟨p, 0, none⟩) n n]) := Lib.hid (by simpa using HO.out)
        have hnx := nx_new25 (A := A) (m := n) (ca := ca) (x := rate) HO2.out.1 HO2.out.2 (by omega)
        have hinv : Inv25 C rate n rate (List.replicate n (-1)) := ⟨HB.out.1, HS0.out, by simp, by rw [HT0.out]; omega, fun R h => h⟩
        have PN := Lib.hid (HNXT.out _ _ _ _ _ hnx hinv)
        have HNX := Lib.hid hnx
        have HINV := Lib.hid hinv
        clear HO HO2 hnx hinv
        go_wp2_with (go_at_call 13; ((with_reducible refine (Hid.out PN).mono ?_); rintro e w2 ⟨b, f, rfl, hk1, hk2, q, rfl⟩; have HST := Lib.hid (St25.mk (w := w) (rate := rate) (Nx25.drewN HNX.out q) HINV.out hk1 hk2); clear PN HNX HINV hk1 hk2))
        clear c3 hk
        generalize hs : wr.heap.size = s at *
        generalize hs2 : s + 1 = s2 at *
        generalize ((wr.alloc (.cells #[.slice A n ca] 23)).alloc (.cells #[.int .u64 rate] 22)).drewN q = w2 at *
        clear hs hs2
        go_loopw [10, 11] (fun vi vk wr => ∃ (b : Nat) (f : Bool) (x : Int) (O : List Int), vi = .int .i64 b ∧ vk = .bool f ∧ Hid (St25 w s s2 p A n ca n C rate b f x O wr)) (fun _ _ wr => mesO (rowOf wr p))
        case atStart => exact ⟨b, f, rate, _, rfl, rfl, HST⟩
        case round =>
          clear HST
          obtain ⟨b, f, x, O, rfl, rfl, HST⟩ := hrel
          have c3 := HST.out.nx.c3
          cases f with
          | false =>
            have HR : Hid (∃ R, Shr C rate (List.replicate n (-1)) R ∧ RdJ wr (some ⟨p, 0, none⟩) n R ∧ Below w.heap.size w wr) := Lib.hid ⟨O, HST.out.inv.shr O (.done (HST.out.no rfl)), by have := HST.out.nx.out.rd; rwa [HST.out.inv.len] at this, HST.out.nx.out.below⟩
            go_wp2
            go_ret
            exact ⟨rfl, by have := HP.out; subst this; exact HR⟩
          | true =>
            have hnx := HST.out.yes rfl
            have hlen := HST.out.inv.len
            have hbn : b < n := by have := hnx.1; omega
            have hbi : (b : Int) < (n : Int) := by omega
            have hbd := HST.out.inv.ok.2 b (by omega)
            have hy8 := hnx.2.1.2.2.1
            have ho := HST.out.inv.one HC.out HB.out.2 hbn
            have HINV2 := Lib.hid (HST.out.inv.step HC.out HB.out.2 hnx)
            have hx2 := HINV2.out.x0
            have hx0 := HST.out.inv.x0
            have c2 := HST.out.nx.c2
            have f2 := HST.out.nx.f2
            have c4 := HST.out.nx.out.at_ (k := b) (by omega)
            obtain ⟨b0, off, R, cr, rfl, hc, hrow⟩ := (HM.out _ HST.out.nx.out.below).at_ (j := b) (by have := HN.out; omega)
            have hcc := cst_ok hrow.2.2.1 (O.getD b 0)
            have hcd := cst_ok hrow.2.2.1 (O.getD b 0 + 1)
            have HROW : Hid (∀ wx, RdV wx R (C.getD b []).length (C.getD b []) → Calls Try.prog 15 #[.slice R (C.getD b []).length cr, .int .i64 (O.getD b 0)] wx fun e w' => e = .returned (.int .u64 (cst (C.getD b []) (O.getD b 0))) ∧ wx = w') := Lib.hid (fun wx h => cost_any25 R (C.getD b []).length cr (C.getD b []) (O.getD b 0) wx h (by omega))
            have HRD := Lib.hid hrow
            have HNX := Lib.hid HST.out.nx
            have HME : Hid (∀ wx, OutR w p 3 (O.set b (O.getD b 0 + 1)) wx → mesO (rowOf wx p) < mesO (rowOf wr p)) := Lib.hid (fun wx h => by rw [h.row, HST.out.nx.out.row]; exact mesO_step hnx.1 hnx.2.1)
            obtain ⟨y, hy⟩ : ∃ y, O.getD b 0 = y := ⟨_, rfl⟩
            have HY := Lib.hid hy
            rw [hy] at HME HINV2 c4 hcc hcd HROW hbd hy8 ho hx2
            clear hy
            obtain ⟨d, hd⟩ : ∃ d, cst (C.getD b []) (y + 1) = d := ⟨_, rfl⟩
            have HD := Lib.hid hd
            rw [hd] at hcd HINV2 hx2
            clear hd
            obtain ⟨nr, hnr⟩ : ∃ nr, (C.getD b []).length = nr := ⟨_, rfl⟩
            have HL := Lib.hid hnr
            rw [hnr] at hc HROW HRD
            clear hnr
            generalize cst (C.getD b []) y = c at *
            have hw1 : IntKind.u64.wrap (x + c) = x + c := by rw [IntKind.wrap_u64]; omega
            clear hrow hnx HST
            go_wp2
            go_upto_region 12 with (fail)
            go_cut [] (fun wx => Hid (Nx25 w s s2 (p + 1) p (some ⟨b0, off, none⟩) n ca n (x + c) O wx))
            case first =>
              go_region_law (first
                | (go_simp; go_at_call 15; ((with_reducible refine (HROW.out _ ?_).mono ?_); exact HRD.out; rintro e w' ⟨rfl, rfl⟩)))
              all_goals (go_wp2_with fail; go_meet; exact Lib.hid (HNX.out.setx (x + c)).drew)
            case rest =>
              clear c2 f2 c3 c4 hc HNX HRD HROW
              have HNX := hcut
              clear hcut
              have c3 := HNX.out.c3
              have c4 : wc.cell? ⟨p, b, none⟩ = some (.int .i64 y) := by have := HNX.out.out.at_ (k := b) (by omega); rwa [HY.out] at this
              have f4 := HNX.out.out.free (k := b)
              have HNX2 := Lib.hid (HNX.out.setk b (y + 1))
              obtain ⟨O2, hO2⟩ : ∃ O2, O2 = O.set b (y + 1) := ⟨_, rfl⟩
              rw [← hO2] at HNX2 HINV2 HME
              have HY2 : Hid (O2.getD b 0 = y + 1 ∧ O2.length = n) := Lib.hid (by rw [hO2, List.length_set]; exact ⟨by simp [List.getD, show b < O.length by omega], hlen⟩)
              clear hO2
              generalize hW : wc.setCell ⟨p, b, none⟩ (.int .i64 (y + 1)) = W2 at *
              clear HNX
              have c2 := HNX2.out.c2
              have f2 := HNX2.out.f2
              have d3 := HNX2.out.c3
              have d4 : W2.cell? ⟨p, b, none⟩ = some (.int .i64 (y + 1)) := by have := HNX2.out.out.at_ (k := b) (by have := HY2.out.2; omega); rwa [HY2.out.1] at this
              obtain ⟨R2, cr2, hc2, hrow2⟩ := mat_row25 (HM.out _ HNX2.out.out.below) (j := b) (by have := HN.out; omega)
              have HROW : Hid (∀ wx, RdV wx R2 (C.getD b []).length (C.getD b []) → Calls Try.prog 15 #[.slice R2 (C.getD b []).length cr2, .int .i64 (y + 1)] wx fun e w' => e = .returned (.int .u64 d) ∧ wx = w') := Lib.hid (fun wx h => by have := cost_any25 R2 (C.getD b []).length cr2 (C.getD b []) (y + 1) wx h (by omega); rwa [HD.out] at this)
              have HRD := Lib.hid hrow2
              clear hrow2
              rw [HL.out] at HROW HRD hc2
              have hw2 : IntKind.u64.wrap (x + c - d) = x + c - d := by rw [IntKind.wrap_u64]; omega
              have hw3 : IntKind.i64.wrap (y + 1) = y + 1 := by rw [IntKind.wrap_i64]; omega
              go_upto_region 14 with (fail)
              clear c3 c4 f4 hW
              have HNX3 := Lib.hid (HNX2.out.setx (x + c - d)).drew
              have PN := Lib.hid (HNXT.out _ _ _ _ _ HNX3.out HINV2.out)
              go_region_law (first
                | (go_simp; go_at_call 15; ((with_reducible refine (HROW.out _ ?_).mono ?_); exact HRD.out; rintro e w' ⟨rfl, rfl⟩)))
              all_goals clear c2 f2 d3 d4 hc2 HROW HRD HNX2
              all_goals (go_wp2_with (go_at_call 13; ((with_reducible refine (Hid.out PN).mono ?_); rintro e w2 ⟨b2, f2, rfl, hk1, hk2, q, hq⟩; have HST := Lib.hid (St25.mk (w := w) (rate := rate) (hq ▸ Nx25.drewN HNX3.out q) HINV2.out hk1 hk2); clear PN hk1 hk2 hq)))
              all_goals go_roundw
              all_goals (first | exact ⟨b2, f2, _, O2, rfl, rfl, HST⟩ | exact HME.out _ HST.out.nx.out)
theorem tells25 : Tells25 := by
  refine ⟨fun w A ca C rate hm hc hs h0 h1 => ?_, fun w A ca C B m cb L hm hc hs hb h2 => ?_, fun w A n c l hr _ => ?_⟩
  · exact (share_any25 A ca C rate w hm hc (by have := hs.1; omega) h0 h1).mono fun _ _ ⟨h, k⟩ => ⟨_, _, h, k⟩
  · exact (Cost_any25 A B ca cb C m L w hm hc hb).mono fun _ _ ⟨h, k⟩ => ⟨h, Lib.hid (k ▸ Below.refl _ _)⟩
  · exact (lowest_any25 A n c l w hr).mono fun _ _ ⟨h, k⟩ => ⟨h, Lib.hid (k ▸ Below.refl _ _)⟩
end Go.Proofs.Ytehnnnhbgjfdgaa
