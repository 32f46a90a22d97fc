/- What the document's answers for layer 19 (tenailleref19) answer: where an index stands, how many bytes there are, the least one. No statement is proved here. -/
import Derived.Test.YtjbeheegciacpaaProg
import Derived.Test.YtjbeheegciacpaaRngNum
import Derived.Test.YtjbeheegciacpaaFoot
import Derived.WalkKit
import Derived.KernelRfl
import Derived.IntWalk
import Derived.LoopTactic
import Derived.Lib.Hide
import Derived.OpenShut
import Derived.BigQuiet
import Derived.Deep.DeepCutAuto
namespace Go.Proofs.Ytjbeheegciacpaa
open Go.RowKit
set_option linter.unusedVariables false

/-- Block g is the document's ring of these packets, as they came. -/
structure RRg (base g : Nat) (P B : Int) (D : List Pck) (vI vB : Value) (w : World) : Prop where
  blk : BlkV w g 30 [.int .i64 P, .int .i64 B, vI, vB]
  own : w.ownsRow base 2 1 vI D.length (icells (D.map (·.1)))
  owb : w.ownsRow base 9 1 vB D.length (tcells (D.map (·.2)))
section
variable {base g : Nat} {P B : Int} {D : List Pck} {vI vB : Value} {w w' : World}
theorem RRg.lt (h : RRg base g P B D vI vB w) : g < w.heap.size := h.blk.lt
theorem RRg.c0 (h : RRg base g P B D vI vB w) : w.cell? ⟨g, 0, none⟩ = some (.int .i64 P) := (h.blk.cell 0).trans rfl
theorem RRg.c1 (h : RRg base g P B D vI vB w) : w.cell? ⟨g, 1, none⟩ = some (.int .i64 B) := (h.blk.cell 1).trans rfl
theorem RRg.c2 (h : RRg base g P B D vI vB w) : w.cell? ⟨g, 2, none⟩ = some vI := (h.blk.cell 2).trans rfl
theorem RRg.c3 (h : RRg base g P B D vI vB w) : w.cell? ⟨g, 3, none⟩ = some vB := (h.blk.cell 3).trans rfl
theorem RRg.below (h : RRg base g P B D vI vB w) (hb : Below w.heap.size w w') : RRg base g P B D vI vB w' := ⟨h.blk.below hb h.blk.lt, own_keep h.own hb, own_keep h.owb hb⟩
theorem RRg.drewN (h : RRg base g P B D vI vB w) (n : Nat) : RRg base g P B D vI vB (w.drewN n) := h.below ⟨rfl, rfl, rfl, Nat.le_refl _, fun _ _ => rfl⟩
end

theorem ret_i64R {a b : Int} (h : a = b) : Ending.returned (.int .i64 a) = .returned (.int .i64 b) := by rw [h]
theorem rat_any19 (base g : Nat) (P B : Int) (D : List Pck) (vI vB : Value) (i : Int) (w : World) (h : RRg base g P B D vI vB w) (hl : D.length ≤ 1000) :
    Calls Try.prog 14 #[.pointer (some ⟨g, 0, none⟩), .int .i64 i] w fun e w' => e = .returned (.int .i64 (atL (D.map (·.1)) i)) ∧ w = w' := by
  obtain ⟨A, c, rfl⟩ := own_formN h.own
  have hc := h.c2
  have hO := h.own
  obtain ⟨xs, hxs⟩ : ∃ xs, xs = D.map (·.1) := ⟨_, rfl⟩
  have hn0 : xs.length = D.length := by rw [hxs, List.length_map]
  rw [← hxs] at hO ⊢
  clear h hxs
  obtain ⟨n, hn⟩ : ∃ n, n = D.length := ⟨_, rfl⟩
  rw [← hn] at hO hl hc hn0
  have HN := Lib.hid hn0
  have HO := Lib.hid hO
  clear hn hn0 hO
  go_enter Try.func14, Try.ntmps14
  go_wp2
  go_loop [5] (fun vi => ∃ k : Nat, k ≤ n ∧ Hid (i ∉ xs.take k) ∧ vi = .int .i64 k) (fun i => n - (intOf i).toNat)
  case atStart => exact ⟨0, by omega, Lib.hid (by simp), rfl⟩
  case round =>
    obtain ⟨k, hk, hno, rfl⟩ := hrel
    by_cases hlt : k < n
    · obtain ⟨b, c', hv, _, _, hcell⟩ := own_ints HO.out (by omega)
      injection hv with e1 e2 e3
      subst e1; subst e3
      have hck := hcell k hlt
      have hki : (k : Int) < (n : Int) := by omega
      have hklen : k < xs.length := by rw [HN.out]; exact hlt
      have hat := fun e => atL_at hklen (i := i) e hno.out
      have hnx : xs.getD k 0 ≠ i → i ∉ xs.take (k + 1) := fun hne hm => by
        rw [List.take_succ_eq_append_getElem hklen] at hm
        rcases List.mem_append.1 hm with h | h
        · exact hno.out h
        · refine hne ?_
          rw [List.mem_singleton.1 h]
          simp [List.getD, hklen]
      obtain ⟨y, hy⟩ : ∃ y, y = xs.getD k 0 := ⟨_, rfl⟩
      rw [← hy] at hck hat hnx
      have HAT := Lib.hid hat
      have HNX := Lib.hid hnx
      clear hcell hy hat hnx hno hklen
      by_cases he : y = i
      · subst he
        have HE := Lib.hid (HAT.out rfl)
        clear HAT HNX
        go_wp2
        go_ret
        exact ⟨ret_i64R HE.out.symm, rfl⟩
      · have he' : (y == i) = false := by simpa using he
        have HNX' := Lib.hid (HNX.out he)
        clear HAT HNX he
        go_wp2
        go_round
        case rel => exact ⟨k + 1, by omega, HNX', by go_num⟩
        case measure => simp [intOf]; omega
    · obtain rfl : k = n := by omega
      have e := atL_no (xs := xs) (i := i) (by have := hno.out; rw [List.take_of_length_le (by rw [HN.out]; omega)] at this; exact this)
      have HE := Lib.hid e
      clear hno e
      go_wp2
      go_ret
      exact ⟨ret_i64R HE.out.symm, rfl⟩

theorem rsize_any19 (base g : Nat) (P B : Int) (D : List Pck) (vI vB : Value) (w : World) (h : RRg base g P B D vI vB w) (hl : D.length ≤ 1000) (hs : sizD D ≤ 1000000000) :
    Calls Try.prog 17 #[.pointer (some ⟨g, 0, none⟩)] w fun e w' => e = .returned (.int .i64 (sizD D : Nat)) ∧ w = w' := by
  obtain ⟨A, c, rfl⟩ := own_formN h.owb
  have hc := h.c3
  have hO := h.owb
  clear h
  obtain ⟨n, hn⟩ : ∃ n, n = D.length := ⟨_, rfl⟩
  rw [← hn] at hO hl hc
  have HN := Lib.hid hn
  have HO := Lib.hid hO
  have h0 : sizD (D.take 0) = 0 := by simp [sizD]
  have hle := sizD_take D
  clear hn hO
  go_enter Try.func17, Try.ntmps17
  go_wp2
  have H0 := Lib.hid h0
  have HLE := Lib.hid hle
  clear h0 hle
  go_loop [3, 4] (fun vn vi => ∃ k m : Nat, k ≤ n ∧ m ≤ 1000000000 ∧ Hid (m = sizD (D.take k)) ∧ vn = .int .i64 m ∧ vi = .int .i64 k) (fun _ i => n - (intOf i).toNat)
  case atStart => exact ⟨0, 0, by omega, by omega, Lib.hid H0.out.symm, rfl, rfl⟩
  case round =>
    obtain ⟨k, m, hk, hm, HM, rfl, rfl⟩ := hrel
    by_cases hlt : k < n
    · obtain ⟨b, c', hv, _, _, hcell⟩ := own_txts HO.out (by omega)
      injection hv with e1 e2 e3
      subst e1; subst e3
      have hck := hcell k hlt
      have hki : (k : Int) < (n : Int) := by omega
      have hst := sizD_next D k (by rw [← HN.out]; exact hlt)
      have hle1 := HLE.out (k + 1)
      obtain ⟨t, ht⟩ : ∃ t, t = (D.map (·.2)).getD k [] := ⟨_, rfl⟩
      rw [← ht] at hck hst
      have hsz : (txt t).size = t.length := by simp [txt, ByteArray.size]
      have hm2 : m + t.length ≤ 1000000000 := by rw [HM.out]; omega
      have HM2 : Hid (m + t.length = sizD (D.take (k + 1))) := Lib.hid (by rw [hst, HM.out])
      obtain ⟨l, hl'⟩ : ∃ l, l = t.length := ⟨_, rfl⟩
      rw [← hl'] at hm2 HM2 hsz
      clear hcell ht hst hle1 HM
      go_wp2
      go_round
      case rel => exact ⟨k + 1, m + l, by omega, hm2, HM2, by go_num, by go_num⟩
      case measure => simp [intOf]; omega
    · obtain rfl : k = n := by omega
      have e : (m : Int) = (sizD D : Nat) := by rw [HM.out, List.take_of_length_le (by rw [← HN.out]; omega)]
      have HE := Lib.hid e
      clear e
      go_wp2
      go_ret
      exact ⟨ret_i64R HE.out, rfl⟩

theorem rleast_any19 (base g : Nat) (P B : Int) (D : List Pck) (vI vB : Value) (w : World) (h : RRg base g P B D vI vB w) (hl : D.length ≤ 1000) :
    Calls Try.prog 22 #[.pointer (some ⟨g, 0, none⟩)] w fun e w' => e = .returned (.int .i64 (lstK (D.map (·.1)) D.length)) ∧ ∃ q, w' = w.drewN q := by
  obtain ⟨A, c, rfl⟩ := own_formN h.own
  have hc := h.c2
  have hO := h.own
  obtain ⟨xs, hxs⟩ : ∃ xs, xs = D.map (·.1) := ⟨_, rfl⟩
  have hn0 : xs.length = D.length := by rw [hxs, List.length_map]
  rw [← hxs] at hO ⊢
  clear h hxs
  obtain ⟨n, hn⟩ : ∃ n, n = D.length := ⟨_, rfl⟩
  rw [← hn] at hO hl hc hn0 ⊢
  have HN := Lib.hid hn0
  have HO := Lib.hid hO
  have HC : Hid (∀ q, (w.drewN q).cell? ⟨g, 2, none⟩ = some (.slice A n c)) := Lib.hid fun q => hc
  clear hn hn0 hO
  go_enter Try.func22, Try.ntmps22
  go_wp2
  go_loopw [3, 4] (fun va vi wr => ∃ k : Nat, k ≤ n ∧ va = .int .i64 (lstK xs k) ∧ vi = .int .i64 k ∧ Hid (∃ q, wr = w.drewN q)) (fun _ i _ => n - (intOf i).toNat)
  case atStart => exact ⟨0, by omega, rfl, rfl, Lib.hid ⟨0, rfl⟩⟩
  case round =>
    clear hc
    obtain ⟨k, hk, rfl, rfl, HW⟩ := hrel
    have hc : wr.cell? ⟨g, 2, none⟩ = some (.slice A n c) := by obtain ⟨q, rfl⟩ := HW.out; exact HC.out q
    by_cases hlt : k < n
    · obtain ⟨b, c', hv, _, _, hcell⟩ := own_ints HO.out (by omega)
      injection hv with e1 e2 e3
      subst e1; subst e3
      have hki : (k : Int) < (n : Int) := by omega
      have hcw : ∀ j, j < n → wr.cell? ⟨b, j, none⟩ = some (.int .i64 (xs.getD j 0)) := by obtain ⟨q, rfl⟩ := HW.out; exact fun j hj => hcell j hj
      have hck := hcw k hlt
      have hdef : lstK xs (k + 1) = if lstK xs k < 0 ∨ xs.getD k 0 < xs.getD (lstK xs k).toNat 0 then (k : Int) else lstK xs k := rfl
      have hneg := lstK_neg xs k
      by_cases h0 : k = 0
      · subst h0
        rw [if_pos (.inl (by simp [lstK]))] at hdef
        have HD := Lib.hid hdef
        have e : lstK xs 0 = -1 := rfl
        rw [e]
        clear hcell hcw hdef hneg e
        go_wp2
        go_quiet (fail)
        obtain ⟨W, hW⟩ : ∃ W, W = wr.drewN nq := ⟨_, rfl⟩
        have HW2 : Hid (∃ q, W = w.drewN q) := Lib.hid (by obtain ⟨q, h⟩ := HW.out; exact ⟨q + nq, by rw [hW, h]; simp [World.drewN, Nat.add_assoc]⟩)
        rw [← hW]
        clear hW HW hc hck
        go_wp2
        go_roundw
        case rel => exact ⟨0 + 1, by omega, by rw [HD.out]; rfl, by go_num, HW2⟩
        case measure => simp [intOf]; omega
      · obtain ⟨m, hm1, hm2, hm3⟩ := lstK_facts xs k (by omega)
        have hcm := hcw m (by omega)
        rw [hm1, Int.toNat_natCast] at hdef
        rw [hm1]
        have hmi : (m : Int) < (n : Int) := by omega
        obtain ⟨x, hx⟩ : ∃ x, x = xs.getD k 0 := ⟨_, rfl⟩
        obtain ⟨y, hy⟩ : ∃ y, y = xs.getD m 0 := ⟨_, rfl⟩
        rw [← hx] at hck hdef
        rw [← hy] at hcm hdef
        clear hcell hcw hneg hx hy hm1 hm3
        by_cases hxy : x < y
        · rw [if_pos (.inr hxy)] at hdef
          have HD := Lib.hid hdef
          clear hdef
          go_wp2
          go_quiet (fail)
          obtain ⟨W, hW⟩ : ∃ W, W = wr.drewN nq := ⟨_, rfl⟩
          have HW2 : Hid (∃ q, W = w.drewN q) := Lib.hid (by obtain ⟨q, h⟩ := HW.out; exact ⟨q + nq, by rw [hW, h]; simp [World.drewN, Nat.add_assoc]⟩)
          rw [← hW]
          clear hW HW hc hck hcm
          go_wp2
          go_roundw
          case rel => exact ⟨k + 1, by omega, by rw [HD.out], by go_num, HW2⟩
          case measure => simp [intOf]; omega
        · rw [if_neg (by omega)] at hdef
          have hxy' : y ≤ x := by omega
          have HD := Lib.hid hdef
          clear hdef hxy
          go_wp2
          go_quiet (fail)
          obtain ⟨W, hW⟩ : ∃ W, W = wr.drewN nq := ⟨_, rfl⟩
          have HW2 : Hid (∃ q, W = w.drewN q) := Lib.hid (by obtain ⟨q, h⟩ := HW.out; exact ⟨q + nq, by rw [hW, h]; simp [World.drewN, Nat.add_assoc]⟩)
          rw [← hW]
          clear hW HW hc hck hcm
          go_wp2
          go_roundw
          case rel => exact ⟨k + 1, by omega, by rw [HD.out], by go_num, HW2⟩
          case measure => simp [intOf]; omega
    · obtain rfl : k = n := by omega
      obtain ⟨y, hy⟩ : ∃ y, y = lstK xs k := ⟨_, rfl⟩
      rw [← hy]
      have HY := Lib.hid hy
      clear hy
      go_wp2
      go_ret
      exact ⟨ret_i64R HY.out, HW.out⟩
end Go.Proofs.Ytjbeheegciacpaa
