/- Several texts in one: Contracts of package rtcp: the bytes of lists. More bytes behind a row of the call's own: a text's, and zeros. Contracts of package rtcp: the bytes of names. Contracts of package slices, at bytes: Grow of nothing, and Concat. Contracts of package rtcp: rates, and what the other bodies are. Plain mathematics on control packets: which may be, and their bytes. No program is named; no statement is proved here. Contracts of package rtcp: a rate cut in two, and whether it may be; a packet that comes in. Packets that come in, a slice of structs with slices of structs in them, opened. No statement is proved here. -/
import Derived.Test.YtacaempcbdekaaaDoorZB
import Derived.Test.YtacaempcbdekaaaDoorZC
import Derived.Lib.AppendStr
import Derived.Lib.AppendZerosOnto
import Derived.Lib.BitFns
import Derived.Test.YtacaempcbdekaaaDoorZA
namespace Go.Proofs.YtacaempcbdekaaaDoor
open Go.RowKit
set_option linter.unusedVariables false

/-- A slice of elements of sz cells each reads as these rows. -/
def RdG (sz : Nat) (w : World) (A : Option Addr) (rows : List (List Value)) : Prop := (∀ r ∈ rows, r.length = sz) ∧ (0 < rows.length → ∃ b off, A = some ⟨b, off, none⟩ ∧ b < w.heap.size ∧ ∀ j, j < rows.length → ∀ d, d < sz → w.cell? ⟨b, off + j * sz + d, none⟩ = (rows.getD j [])[d]?)
theorem RdG.below {sz : Nat} {w w' : World} {A : Option Addr} {rows : List (List Value)} (h : RdG sz w A rows) (hb : Below w.heap.size w w') : RdG sz w' A rows := by
  refine ⟨h.1, fun hn => ?_⟩
  obtain ⟨b, off, hA, hlt, hc⟩ := h.2 hn
  exact ⟨b, off, hA, Nat.lt_of_lt_of_le hlt hb.size, fun j hj d hd => (hb.cell (p := ⟨b, off + j * sz + d, none⟩) hlt).trans (hc j hj d hd)⟩
/-- Where the k-th one lies, in every world that comes later. -/
theorem RdG.at_ {sz : Nat} {w : World} {A : Option Addr} {α : Type} {f : α → List Value} {L : List α} (h : RdG sz w A (L.map f)) {k : Nat} (hk : k < L.length) : ∃ b off, A = some ⟨b, off, none⟩ ∧ ∀ wx, Below w.heap.size w wx → wx.rangeAt b (off + k * sz) (f L[k]) := by
  obtain ⟨b, off, hA, hlt, hc⟩ := h.2 (by simp; omega)
  refine ⟨b, off, hA, fun wx hb d v hv => ?_⟩
  have hr : (L.map f).getD k [] = f L[k] := by simp [List.getD, hk]
  have hd : d < sz := by
    have h1 := h.1 (f L[k]) (List.mem_map.2 ⟨_, List.getElem_mem hk, rfl⟩)
    have := (List.getElem?_eq_some_iff.1 hv).1
    omega
  have := hc k (by simpa using hk) d hd
  rw [hr, hv] at this
  exact (hb.cell (p := ⟨b, off + k * sz + d, none⟩) hlt).trans this

/-- Bytes of the call's own, so far. -/
def BO (w0 w : World) (A : Option Addr) (n c : Nat) (bs : List UInt8) : Prop := w.ownsRow w0.heap.size 5 1 (.slice A n c) n (cells bs) ∧ Below w0.heap.size w0 w
theorem BO.nil (w : World) : BO w w none 0 0 [] := ⟨World.ownsRow_nil w _ _ _, Below.refl _ _⟩
theorem BO.rd {w0 w : World} {A : Option Addr} {n c : Nat} {bs : List UInt8} (h : BO w0 w A n c bs) : RdS w A n c bs := RdS.of_own h.1
theorem BO.below {w0 w w' : World} {A : Option Addr} {n c : Nat} {bs : List UInt8} (h : BO w0 w A n c bs) (hb : Below w.heap.size w w') : BO w0 w' A n c bs := ⟨own_thN h.1 (grown_of_below hb none) (fun p hp => by cases hp), h.2.trans (hb.mono h.2.size)⟩
theorem BO.len {w0 w : World} {A : Option Addr} {n c : Nat} {bs : List UInt8} (h : BO w0 w A n c bs) : bs.length = n := h.rd.len
/-- More bytes behind them. -/
theorem BO.more {w0 w w' : World} {A A' : Option Addr} {n c n' c' : Nat} {bs bs' : List UInt8} (h : BO w0 w A n c bs) (h1 : w'.ownsRow w0.heap.size 5 1 (.slice A' n' c') n' (cells bs')) (hg : w.grownBy w' (Value.slice A n c).ownBlock) : BO w0 w' A' n' c' bs' :=
  ⟨h1, h.2.grown hg h.2.size (fun p hp => (h.1.lt p hp).1)⟩
theorem put_bo (w0 w : World) (A : Option Addr) (n c N : Nat) (bs : List UInt8) (m x : Nat) (mi xi : Int) (hmi : mi = m) (hxi : xi = x) (hN : N = n + m) (h : BO w0 w A n c bs) (h1 : 1 ≤ m) (h8 : m ≤ 8) (hx : x < 18446744073709551616) (hs : n ≤ 1000000) :
    Calls Tryd.prog 34 #[.slice A n c, .int .i64 mi, .int .u64 xi] w fun e w' => ∃ A' c', e = .returned (.slice A' N c') ∧ BO w0 w' A' N c' (bs ++ beb m x) ∧ Below w.heap.size w w' := by
  subst hmi; subst hxi; subst hN
  refine (put_some A n c bs m x w h.rd h1 h8 hx (by omega)).mono ?_
  rintro e w' ⟨rfl, hB, hb⟩
  exact ⟨_, _, rfl, ⟨hB.owns (by rw [List.length_append, h.len, length_beb]) (by simp only [maxLen]; omega) h.2.size, h.2.trans (hb.mono h.2.size)⟩, hb⟩
theorem putNil_bo (w : World) (m x : Nat) (mi xi : Int) (hmi : mi = m) (hxi : xi = x) (h1 : 1 ≤ m) (h8 : m ≤ 8) (hx : x < 18446744073709551616) :
    Calls Tryd.prog 34 #[.slice none 0 0, .int .i64 mi, .int .u64 xi] w fun e w' => ∃ A' c', e = .returned (.slice A' m c') ∧ BO w w' A' m c' (beb m x) ∧ Below w.heap.size w w' :=
  (put_bo w w none 0 0 m [] m x mi xi hmi hxi (by omega) (BO.nil w) h1 h8 hx (by omega)).mono fun e w' ⟨A', c', h1, h2, h3⟩ => ⟨A', c', h1, h2, h3⟩
theorem flat_snoc {α : Type} (f : α → List UInt8) {L : List α} {k : Nat} (h : k < L.length) : (L.take (k + 1)).flatMap f = (L.take k).flatMap f ++ f L[k] := vals_at f h


set_option maxRecDepth 100000 in
set_option maxHeartbeats 1000000 in
theorem words_any (A : Option Addr) (n c : Nat) (L : List Nat) (w : World) (hn : L.length = n) (hs : n ≤ 1000) (hf : ∀ x ∈ L, x < 4294967296) (h : RdG 1 w A (L.map cSrc)) :
    Calls Tryd.prog 41 #[.slice A n c] w fun e w' => ∃ A' c', e = .returned (.slice A' (L.flatMap (beb 4)).length c') ∧ BO w w' A' (L.flatMap (beb 4)).length c' (L.flatMap (beb 4)) := by
  have HR := Lib.hid h
  have HN := Lib.hid hn
  have HF := Lib.hid hf
  clear h hn hf
  go_enter Tryd.func41, Tryd.ntmps41
  go_wp2
  go_loopw [3, 8] (fun v i wr => ∃ (k M : Nat) (A' : Option Addr) (c' : Nat), k ≤ n ∧ M ≤ 4 * k ∧ i = .int .i64 k ∧ v = .slice A' M c' ∧ Hid (BO w wr A' M c' ((L.take k).flatMap (beb 4)))) (fun _ i _ => n - (intOf i).toNat)
  case atStart => exact ⟨0, 0, none, 0, by omega, by omega, rfl, rfl, Lib.hid (BO.nil w)⟩
  case round =>
    obtain ⟨k, M, A1, c1, hk, hM, rfl, rfl, HL⟩ := hrel
    by_cases hkn : k < n
    · have hkl : k < L.length := by rw [HN.out]; exact hkn
      obtain ⟨b, off, rfl, hat⟩ := HR.out.at_ hkl
      have hxf := HF.out _ (List.getElem_mem hkl)
      have HV := Lib.hid (flat_snoc (beb 4) hkl)
      have HG := Lib.hid (hat wr HL.out.2)
      obtain ⟨x, hx⟩ : ∃ x, x = L[k] := ⟨_, rfl⟩
      rw [← hx] at hxf HV HG
      obtain ⟨T, hT⟩ : ∃ T, T = (L.take k).flatMap (beb 4) := ⟨_, rfl⟩
      rw [← hT] at HV HL
      clear hx hat hT
      have hsz := HL.out.2.size
      have hM6 : M ≤ 4 * 1000 := by omega
      obtain x := x
      have r1 : wr.cell? ⟨b, off + k, none⟩ = some (.int .u32 (x : Int)) := by
        have := HG.out 0 _ rfl
        simpa using this
      have e1 : IntKind.u64.wrap (x : Int) = (x : Int) := by rw [IntKind.wrap_u64]; omega
      go_wp2_with (go_at_call 34; ((with_reducible refine (put_bo w _ A1 M c1 (M + 4) _ 4 x _ _ (by omega) (by omega) (by omega) HL.out (by omega) (by omega) (by omega) (by omega)).mono ?_); rintro e w2 ⟨A2, c2, rfl, hbo, hb⟩; have B2 := Lib.hid hbo; clear hbo hb))
      go_roundw
      case rel => exact ⟨k + 1, M + 4, A2, c2, by omega, by omega, by go_num, rfl, Lib.hid (by rw [HV.out]; exact B2.out)⟩
      case measure => simp [intOf]; omega
    · obtain rfl : k = n := by omega
      rw [show L.take k = L by rw [← HN.out, List.take_length]] at HL
      have hm : M = (L.flatMap (beb 4)).length := HL.out.len.symm
      subst hm
      go_wp2
      go_ret
      exact ⟨A1, c1, rfl, HL.out⟩

set_option maxRecDepth 100000 in
set_option maxHeartbeats 1000000 in
theorem losBytes_any (A : Option Addr) (n c : Nat) (L : List (Nat × Nat)) (w : World) (hn : L.length = n) (hs : n ≤ 1000) (hf : ∀ x ∈ L, x.1 < 65536 ∧ x.2 < 65536) (h : RdG 2 w A (L.map cLos)) :
    Calls Tryd.prog 44 #[.slice A n c] w fun e w' => ∃ A' c', e = .returned (.slice A' (L.flatMap lossB).length c') ∧ BO w w' A' (L.flatMap lossB).length c' (L.flatMap lossB) := by
  have HR := Lib.hid h
  have HN := Lib.hid hn
  have HF := Lib.hid hf
  clear h hn hf
  go_enter Tryd.func44, Tryd.ntmps44
  go_wp2
  go_loopw [3, 8] (fun v i wr => ∃ (k M : Nat) (A' : Option Addr) (c' : Nat), k ≤ n ∧ M ≤ 4 * k ∧ i = .int .i64 k ∧ v = .slice A' M c' ∧ Hid (BO w wr A' M c' ((L.take k).flatMap lossB))) (fun _ i _ => n - (intOf i).toNat)
  case atStart => exact ⟨0, 0, none, 0, by omega, by omega, rfl, rfl, Lib.hid (BO.nil w)⟩
  case round =>
    obtain ⟨k, M, A1, c1, hk, hM, rfl, rfl, HL⟩ := hrel
    by_cases hkn : k < n
    · have hkl : k < L.length := by rw [HN.out]; exact hkn
      obtain ⟨b, off, rfl, hat⟩ := HR.out.at_ hkl
      have hxf := HF.out _ (List.getElem_mem hkl)
      have HV := Lib.hid (flat_snoc lossB hkl)
      have HG := Lib.hid (hat wr HL.out.2)
      obtain ⟨x, hx⟩ : ∃ x, x = L[k] := ⟨_, rfl⟩
      rw [← hx] at hxf HV HG
      obtain ⟨T, hT⟩ : ∃ T, T = (L.take k).flatMap lossB := ⟨_, rfl⟩
      rw [← hT] at HV HL
      clear hx hat hT
      have hsz := HL.out.2.size
      have hM6 : M ≤ 4 * 1000 := by omega
      obtain ⟨s, q⟩ := x
      have e1 : IntKind.u64.wrap (s : Int) = (s : Int) := by rw [IntKind.wrap_u64]; have := hxf.1; simp only at this; omega
      have e2 : IntKind.u64.wrap (q : Int) = (q : Int) := by rw [IntKind.wrap_u64]; have := hxf.2; simp only at this; omega
      obtain ⟨l1, l2⟩ := hxf
      simp only at l1 l2
      go_wp2_with (first
        | (with_reducible refine wpList_ld rfl 41 (.tmp 10) rfl b (off + k * 2) rfl (cLos (s, q)) HG.out (rowLos rfl) ?_)
        | ((refine wpList_st rfl 41 (.tmp 5) (.tmp 11) rfl wr.heap.size 0 (cLos (s, q)) rfl (by with_unfolding_all rfl) 41 zLos (BlkV.new wr _ _) (Nat.le_refl 2) (rowLos rfl) (cLos_one _) ?_); intro w1 hB1 ho1; rw [splice_all _ _ (by rfl)] at hB1; have k0 : w1.cell? ⟨wr.heap.size, 0, none⟩ = some (.int .u16 (s : Int)) := (hB1.cell 0).trans rfl; have k1 : w1.cell? ⟨wr.heap.size, 1, none⟩ = some (.int .u16 (q : Int)) := (hB1.cell 1).trans rfl; have B1 := Lib.hid (HL.out.below (((Below.refl _ _).alloc (Nat.le_refl _) _).trans (ho1.below (Nat.le_refl _)))); have V1 := Lib.hid hB1; clear hB1 ho1)
        | (go_at_call 34; ((with_reducible refine (put_bo w _ A1 M c1 (M + 2) _ 2 s _ _ (by omega) (by omega) (by omega) B1.out (by omega) (by omega) (by omega) (by omega)).mono ?_); rintro e w2 ⟨A2, c2, rfl, hbo, hb⟩; have B2 := Lib.hid hbo; have V2 := Lib.hid (V1.out.below hb V1.out.lt); have k2_0 : w2.cell? ⟨wr.heap.size, 0, none⟩ = some (.int .u16 (s : Int)) := (V2.out.cell 0).trans rfl; have k2_1 : w2.cell? ⟨wr.heap.size, 1, none⟩ = some (.int .u16 (q : Int)) := (V2.out.cell 1).trans rfl; clear hbo hb))
        | (go_at_call 34; ((with_reducible refine (put_bo w _ A2 (M + 2) c2 (M + 4) _ 2 q _ _ (by omega) (by omega) (by omega) B2.out (by omega) (by omega) (by omega) (by omega)).mono ?_); rintro e w3 ⟨A3, c3, rfl, hbo, hb⟩; have B3 := Lib.hid hbo; clear hbo hb)))
      go_roundw
      case rel => exact ⟨k + 1, M + 4, A3, c3, by omega, by omega, by go_num, rfl, Lib.hid (by rw [HV.out]; simp only [lossB]; rw [← List.append_assoc]; exact B3.out)⟩
      case measure => simp [intOf]; omega
    · obtain rfl : k = n := by omega
      rw [show L.take k = L by rw [← HN.out, List.take_length]] at HL
      have hm : M = (L.flatMap lossB).length := HL.out.len.symm
      subst hm
      go_wp2
      go_ret
      exact ⟨A1, c1, rfl, HL.out⟩

theorem rd_four (w : World) (q : Nat) (h : q < 256) : RdS (w.alloc (.cells #[.int .u8 (q : Int), .int .u8 0, .int .u8 0, .int .u8 0] 5)) (some ⟨w.heap.size, 0, none⟩) 4 4 (beb 1 q ++ List.replicate 3 0) := by
  have e : beb 1 q ++ List.replicate 3 0 = [UInt8.ofNat q, 0, 0, 0] := by rw [beb_succ]; rfl
  rw [e]
  have hB : Blk (w.alloc (.cells #[.int .u8 (q : Int), .int .u8 0, .int .u8 0, .int .u8 0] 5)) w.heap.size 5 [UInt8.ofNat q, 0, 0, 0] := Blk.new_at _ _ _ _ _ rfl (by simp [cells]; omega)
  exact hB.rd rfl (by omega) (by simp [maxLen])
theorem words_lit (L : List Nat) (n N : Nat) (C : Array Value) (w : World) (hC : C = (L.map fun x : Nat => Value.int .u32 (x : Int)).toArray) (hn : L.length = n) (hN : N = 4 * n) (hs : n ≤ 1000) (hf : ∀ x ∈ L, x < 4294967296) :
    Calls Tryd.prog 41 #[.slice (some ⟨w.heap.size, 0, none⟩) n n] (w.alloc (.cells C 43)) fun e w' => ∃ A' c', e = .returned (.slice A' N c') ∧ RdS w' A' N c' (L.flatMap (beb 4)) ∧ Below w.heap.size w w' := by
  subst hC
  have hB : BlkV (w.alloc (.cells (L.map fun x : Nat => Value.int .u32 (x : Int)).toArray 43)) w.heap.size 43 (L.map fun x : Nat => Value.int .u32 (x : Int)) := BlkV.new _ _ _
  refine (words_any _ n n L _ hn hs hf ⟨fun r hr => ?_, fun _ => ⟨w.heap.size, 0, rfl, hB.lt, fun j hj d hd => ?_⟩⟩).mono ?_
  · obtain ⟨x, _, rfl⟩ := List.mem_map.1 hr; rfl
  · obtain rfl : d = 0 := by omega
    rw [hB.cell]
    rw [List.length_map] at hj
    simp [List.getD, hj, cSrc]
  · rintro e w' ⟨A', c', rfl, hb⟩
    have hl : (L.flatMap (beb 4)).length = N := by rw [flat_len (beb 4) 4 (length_beb 4), hn, hN]
    rw [hl] at hb ⊢
    exact ⟨A', c', rfl, hb.rd, ((Below.refl _ _).alloc (Nat.le_refl _) _).trans (hb.2.mono (by simp))⟩
theorem ofNat_mod (a b : Nat) (h : a % 256 = b % 256) : UInt8.ofNat a = UInt8.ofNat b := by
  apply UInt8.toNat_inj.1
  rw [UInt8.toNat_ofNat', UInt8.toNat_ofNat']
  exact h
theorem beb_mul_add (n a : Nat) : ∀ x, beb n (a * 256 ^ n + x) = beb n x := by
  induction n with
  | zero => intro x; rfl
  | succ n ih =>
    intro x
    have e : a * 256 ^ (n + 1) = a * 256 ^ n * 256 := by rw [Nat.pow_succ, Nat.mul_assoc]
    rw [beb_succ, beb_succ n x, e, show (a * 256 ^ n * 256 + x) / 256 = a * 256 ^ n + x / 256 by omega, ih, ofNat_mod _ x (by omega)]
theorem beb_mod (n x : Nat) : beb n (x % 256 ^ n) = beb n x := by
  have h := beb_mul_add n (x / 256 ^ n) (x % 256 ^ n)
  rw [Nat.mul_comm, Nat.div_add_mod] at h
  exact h.symm
theorem beb_congr (n x y : Nat) (h : x % 256 ^ n = y % 256 ^ n) : beb n x = beb n y := by rw [← beb_mod n x, h, beb_mod]
theorem lo_bytes (z : Int) (h1 : -8388608 ≤ z) (h2 : z ≤ 8388607) : beb 3 ((z % 18446744073709551616).toNat) = beb 3 (lo24 z) := by
  apply beb_congr
  unfold lo24
  simp only [Nat.reducePow]
  split <;> omega

set_option maxRecDepth 100000 in
set_option maxHeartbeats 1000000 in
theorem firBytes_any (A : Option Addr) (n c : Nat) (L : List (Nat × Nat)) (w : World) (hn : L.length = n) (hs : n ≤ 1000) (hf : ∀ x ∈ L, x.1 < 4294967296 ∧ x.2 < 256) (h : RdG 2 w A (L.map cFir)) :
    Calls Tryd.prog 45 #[.slice A n c] w fun e w' => ∃ A' c', e = .returned (.slice A' (L.flatMap firB).length c') ∧ BO w w' A' (L.flatMap firB).length c' (L.flatMap firB) := by
  have HR := Lib.hid h
  have HN := Lib.hid hn
  have HF := Lib.hid hf
  clear h hn hf
  go_enter Tryd.func45, Tryd.ntmps45
  go_wp2
  go_loopw [3, 8] (fun v i wr => ∃ (k M : Nat) (A' : Option Addr) (c' : Nat), k ≤ n ∧ M ≤ 8 * k ∧ i = .int .i64 k ∧ v = .slice A' M c' ∧ Hid (BO w wr A' M c' ((L.take k).flatMap firB))) (fun _ i _ => n - (intOf i).toNat)
  case atStart => exact ⟨0, 0, none, 0, by omega, by omega, rfl, rfl, Lib.hid (BO.nil w)⟩
  case round =>
    obtain ⟨k, M, A1, c1, hk, hM, rfl, rfl, HL⟩ := hrel
    by_cases hkn : k < n
    · have hkl : k < L.length := by rw [HN.out]; exact hkn
      obtain ⟨b, off, rfl, hat⟩ := HR.out.at_ hkl
      have hxf := HF.out _ (List.getElem_mem hkl)
      have HV := Lib.hid (flat_snoc firB hkl)
      have HG := Lib.hid (hat wr HL.out.2)
      obtain ⟨x, hx⟩ : ∃ x, x = L[k] := ⟨_, rfl⟩
      rw [← hx] at hxf HV HG
      obtain ⟨T, hT⟩ : ∃ T, T = (L.take k).flatMap firB := ⟨_, rfl⟩
      rw [← hT] at HV HL
      clear hx hat hT
      have hsz := HL.out.2.size
      have hM6 : M ≤ 8 * 1000 := by omega
      obtain ⟨s, q⟩ := x
      obtain ⟨l1, l2⟩ := hxf
      simp only at l1 l2
      have e1 : IntKind.u64.wrap (s : Int) = (s : Int) := by rw [IntKind.wrap_u64]; omega
      go_wp2_with (first
        | (with_reducible refine wpList_ld rfl 76 (.tmp 10) rfl b (off + k * 2) rfl (cFir (s, q)) HG.out (rowFir rfl) ?_)
        | ((refine wpList_st rfl 76 (.tmp 5) (.tmp 11) rfl wr.heap.size 0 (cFir (s, q)) rfl (by with_unfolding_all rfl) 76 zFir (BlkV.new wr _ _) (Nat.le_refl 2) (rowFir rfl) (cFir_one _) ?_); intro w1 hB1 ho1; rw [splice_all _ _ (by rfl)] at hB1; have k0 : w1.cell? ⟨wr.heap.size, 0, none⟩ = some (.int .u32 (s : Int)) := (hB1.cell 0).trans rfl; have k1 : w1.cell? ⟨wr.heap.size, 1, none⟩ = some (.int .u8 (q : Int)) := (hB1.cell 1).trans rfl; have B1 := Lib.hid (HL.out.below (((Below.refl _ _).alloc (Nat.le_refl _) _).trans (ho1.below (Nat.le_refl _)))); have V1 := Lib.hid hB1; clear hB1 ho1)
        | (go_at_call 34; ((with_reducible refine (put_bo w _ A1 M c1 (M + 4) _ 4 s _ _ (by omega) (by omega) (by omega) B1.out (by omega) (by omega) (by omega) (by omega)).mono ?_); rintro e w2 ⟨A2, c2, rfl, hbo, hb⟩; have B2 := Lib.hid hbo; have V2 := Lib.hid (V1.out.below hb V1.out.lt); have k2_0 : w2.cell? ⟨wr.heap.size, 0, none⟩ = some (.int .u32 (s : Int)) := (V2.out.cell 0).trans rfl; have k2_1 : w2.cell? ⟨wr.heap.size, 1, none⟩ = some (.int .u8 (q : Int)) := (V2.out.cell 1).trans rfl; clear hbo hb))
        | (at_builtin; refine wpList_append_rd _ rfl (.tmp 17) (.tmp 20) rfl Tryd.underlying25 u8_info w.heap.size (.slice A2 (M + 4) c2) (M + 4) (T ++ beb 4 s) rfl (B2.out.1.alloc _) (some ⟨w2.heap.size, 0, none⟩) 4 4 (beb 1 q ++ List.replicate 3 0) rfl (rd_four w2 q l2) (by omega) (by have := B2.out.2.size; simp; omega) ?_; intro v3 w3 hown3 hg3 _; obtain ⟨A3, c3, hv3⟩ := own_formN hown3; subst hv3; have B3 := Lib.hid ((B2.out.below ((Below.refl _ _).alloc (Nat.le_refl _) _)).more hown3 hg3); clear hown3 hg3))
      go_roundw
      case rel => exact ⟨k + 1, M + 4 + 4, A3, c3, by omega, by omega, by go_num, rfl, Lib.hid (by rw [HV.out]; simp only [firB]; rw [← List.append_assoc]; exact B3.out)⟩
      case measure => simp [intOf]; omega
    · obtain rfl : k = n := by omega
      rw [show L.take k = L by rw [← HN.out, List.take_length]] at HL
      have hm : M = (L.flatMap firB).length := HL.out.len.symm
      subst hm
      go_wp2
      go_ret
      exact ⟨A1, c1, rfl, HL.out⟩

set_option maxRecDepth 100000 in
set_option maxHeartbeats 1000000 in
theorem repBytes_any (A : Option Addr) (n c : Nat) (L : List Rep) (w : World) (hn : L.length = n) (hs : n ≤ 1000) (hf : ∀ x ∈ L, x.fit ∧ x.ok) (h : RdG 7 w A (L.map cRep)) :
    Calls Tryd.prog 42 #[.slice A n c] w fun e w' => ∃ A' c', e = .returned (.slice A' (L.flatMap repB).length c') ∧ BO w w' A' (L.flatMap repB).length c' (L.flatMap repB) := by
  have HR := Lib.hid h
  have HN := Lib.hid hn
  have HF := Lib.hid hf
  clear h hn hf
  go_enter Tryd.func42, Tryd.ntmps42
  go_wp2
  go_loopw [3, 8] (fun v i wr => ∃ (k M : Nat) (A' : Option Addr) (c' : Nat), k ≤ n ∧ M ≤ 24 * k ∧ i = .int .i64 k ∧ v = .slice A' M c' ∧ Hid (BO w wr A' M c' ((L.take k).flatMap repB))) (fun _ i _ => n - (intOf i).toNat)
  case atStart => exact ⟨0, 0, none, 0, by omega, by omega, rfl, rfl, Lib.hid (BO.nil w)⟩
  case round =>
    obtain ⟨k, M, A1, c1, hk, hM, rfl, rfl, HL⟩ := hrel
    by_cases hkn : k < n
    · have hkl : k < L.length := by rw [HN.out]; exact hkn
      obtain ⟨b, off, rfl, hat⟩ := HR.out.at_ hkl
      have hxf := HF.out _ (List.getElem_mem hkl)
      have HV := Lib.hid (flat_snoc repB hkl)
      have HG := Lib.hid (hat wr HL.out.2)
      obtain ⟨x, hx⟩ : ∃ x, x = L[k] := ⟨_, rfl⟩
      rw [← hx] at hxf HV HG
      obtain ⟨T, hT⟩ : ∃ T, T = (L.take k).flatMap repB := ⟨_, rfl⟩
      rw [← hT] at HV HL
      clear hx hat hT
      have hsz := HL.out.2.size
      have hM6 : M ≤ 24 * 1000 := by omega
      obtain ⟨so, fr, lo, hi, ji, la, de⟩ := x
      obtain ⟨⟨l1, l2, l3, l4, l5, l6, l7⟩, m1, m2⟩ := hxf
      simp only at l1 l2 l4 l5 l6 l7 m1 m2
      have e1 : IntKind.u64.wrap (so : Int) = (so : Int) := by rw [IntKind.wrap_u64]; omega
      have e2 : IntKind.u64.wrap (fr : Int) = (fr : Int) := by rw [IntKind.wrap_u64]; omega
      have hlb := lo_bytes lo m1 m2
      obtain ⟨X, hX⟩ : ∃ X, X = (lo % 18446744073709551616).toNat := ⟨_, rfl⟩
      rw [← hX] at hlb
      have e3 : IntKind.u64.wrap lo = (X : Int) := by rw [IntKind.wrap_u64]; omega
      have lX : X < 18446744073709551616 := by omega
      have HLB := Lib.hid hlb
      have HW : Hid (∀ W, Calls Tryd.prog 41 #[.slice (some ⟨W.heap.size, 0, none⟩) 4 4] (W.alloc (.cells #[.int .u32 (hi : Int), .int .u32 (ji : Int), .int .u32 (la : Int), .int .u32 (de : Int)] 43)) fun e w' => ∃ A' c', e = .returned (.slice A' 16 c') ∧ RdS w' A' 16 c' ([hi, ji, la, de].flatMap (beb 4)) ∧ Below W.heap.size W w') := Lib.hid fun W => words_lit [hi, ji, la, de] 4 16 _ W rfl rfl rfl (by omega) (by intro x hx; simp at hx; omega)
      clear hX hlb l3 m1 m2
      have RX : Hid (X < 18446744073709551616) := Lib.hid lX
      clear lX
      go_wp2_with (first
        | (with_reducible refine wpList_ld rfl 74 (.tmp 10) rfl b (off + k * 7) rfl (cRep ⟨so, fr, lo, hi, ji, la, de⟩) HG.out (rowRep rfl) ?_)
        | ((refine wpList_st rfl 74 (.tmp 5) (.tmp 11) rfl wr.heap.size 0 (cRep ⟨so, fr, lo, hi, ji, la, de⟩) rfl (by with_unfolding_all rfl) 74 zRep (BlkV.new wr _ _) (Nat.le_refl 7) (rowRep rfl) (cRep_one _) ?_); intro w1 hB1 ho1; rw [splice_all _ _ (by rfl)] at hB1; have k0 : w1.cell? ⟨wr.heap.size, 0, none⟩ = some (.int .u32 (so : Int)) := (hB1.cell 0).trans rfl; have k1 : w1.cell? ⟨wr.heap.size, 1, none⟩ = some (.int .u8 (fr : Int)) := (hB1.cell 1).trans rfl; have k2 : w1.cell? ⟨wr.heap.size, 2, none⟩ = some (.int .i32 lo) := (hB1.cell 2).trans rfl; have k3 : w1.cell? ⟨wr.heap.size, 3, none⟩ = some (.int .u32 (hi : Int)) := (hB1.cell 3).trans rfl; have k4 : w1.cell? ⟨wr.heap.size, 4, none⟩ = some (.int .u32 (ji : Int)) := (hB1.cell 4).trans rfl; have k5 : w1.cell? ⟨wr.heap.size, 5, none⟩ = some (.int .u32 (la : Int)) := (hB1.cell 5).trans rfl; have k6 : w1.cell? ⟨wr.heap.size, 6, none⟩ = some (.int .u32 (de : Int)) := (hB1.cell 6).trans rfl; have B1 := Lib.hid (HL.out.below (((Below.refl _ _).alloc (Nat.le_refl _) _).trans (ho1.below (Nat.le_refl _)))); have V1 := Lib.hid hB1; clear hB1 ho1)
        | (go_at_call 34; ((with_reducible refine (put_bo w _ A1 M c1 (M + 4) _ 4 so _ _ (by omega) (by omega) (by omega) B1.out (by omega) (by omega) (by omega) (by omega)).mono ?_); rintro e w2 ⟨A2, c2, rfl, hbo, hb⟩; have B2 := Lib.hid hbo; have V2 := Lib.hid (V1.out.below hb V1.out.lt); have k2_0 : w2.cell? ⟨wr.heap.size, 0, none⟩ = some (.int .u32 (so : Int)) := (V2.out.cell 0).trans rfl; have k2_1 : w2.cell? ⟨wr.heap.size, 1, none⟩ = some (.int .u8 (fr : Int)) := (V2.out.cell 1).trans rfl; have k2_2 : w2.cell? ⟨wr.heap.size, 2, none⟩ = some (.int .i32 lo) := (V2.out.cell 2).trans rfl; have k2_3 : w2.cell? ⟨wr.heap.size, 3, none⟩ = some (.int .u32 (hi : Int)) := (V2.out.cell 3).trans rfl; have k2_4 : w2.cell? ⟨wr.heap.size, 4, none⟩ = some (.int .u32 (ji : Int)) := (V2.out.cell 4).trans rfl; have k2_5 : w2.cell? ⟨wr.heap.size, 5, none⟩ = some (.int .u32 (la : Int)) := (V2.out.cell 5).trans rfl; have k2_6 : w2.cell? ⟨wr.heap.size, 6, none⟩ = some (.int .u32 (de : Int)) := (V2.out.cell 6).trans rfl; clear hbo hb))
        | (go_at_call 34; ((with_reducible refine (put_bo w _ A2 (M + 4) c2 (M + 5) _ 1 fr _ _ (by omega) (by omega) (by omega) B2.out (by omega) (by omega) (by omega) (by omega)).mono ?_); rintro e w3 ⟨A3, c3, rfl, hbo, hb⟩; have B3 := Lib.hid hbo; have V3 := Lib.hid (V2.out.below hb V2.out.lt); have k3_0 : w3.cell? ⟨wr.heap.size, 0, none⟩ = some (.int .u32 (so : Int)) := (V3.out.cell 0).trans rfl; have k3_1 : w3.cell? ⟨wr.heap.size, 1, none⟩ = some (.int .u8 (fr : Int)) := (V3.out.cell 1).trans rfl; have k3_2 : w3.cell? ⟨wr.heap.size, 2, none⟩ = some (.int .i32 lo) := (V3.out.cell 2).trans rfl; have k3_3 : w3.cell? ⟨wr.heap.size, 3, none⟩ = some (.int .u32 (hi : Int)) := (V3.out.cell 3).trans rfl; have k3_4 : w3.cell? ⟨wr.heap.size, 4, none⟩ = some (.int .u32 (ji : Int)) := (V3.out.cell 4).trans rfl; have k3_5 : w3.cell? ⟨wr.heap.size, 5, none⟩ = some (.int .u32 (la : Int)) := (V3.out.cell 5).trans rfl; have k3_6 : w3.cell? ⟨wr.heap.size, 6, none⟩ = some (.int .u32 (de : Int)) := (V3.out.cell 6).trans rfl; clear hbo hb))
        | (go_at_call 34; ((with_reducible refine (put_bo w _ A3 (M + 5) c3 (M + 8) _ 3 X _ _ (by omega) (by omega) (by omega) B3.out (by omega) (by omega) RX.out (by omega)).mono ?_); rintro e w4 ⟨A4, c4, rfl, hbo, hb⟩; have B4 := Lib.hid hbo; have V4 := Lib.hid (V3.out.below hb V3.out.lt); have k4_0 : w4.cell? ⟨wr.heap.size, 0, none⟩ = some (.int .u32 (so : Int)) := (V4.out.cell 0).trans rfl; have k4_1 : w4.cell? ⟨wr.heap.size, 1, none⟩ = some (.int .u8 (fr : Int)) := (V4.out.cell 1).trans rfl; have k4_2 : w4.cell? ⟨wr.heap.size, 2, none⟩ = some (.int .i32 lo) := (V4.out.cell 2).trans rfl; have k4_3 : w4.cell? ⟨wr.heap.size, 3, none⟩ = some (.int .u32 (hi : Int)) := (V4.out.cell 3).trans rfl; have k4_4 : w4.cell? ⟨wr.heap.size, 4, none⟩ = some (.int .u32 (ji : Int)) := (V4.out.cell 4).trans rfl; have k4_5 : w4.cell? ⟨wr.heap.size, 5, none⟩ = some (.int .u32 (la : Int)) := (V4.out.cell 5).trans rfl; have k4_6 : w4.cell? ⟨wr.heap.size, 6, none⟩ = some (.int .u32 (de : Int)) := (V4.out.cell 6).trans rfl; clear hbo hb))
        | (go_at_call 41; ((with_reducible refine (Hid.out HW w4).mono ?_); rintro e w5 ⟨A5, c5, rfl, hr5, hb⟩; have R5 := Lib.hid hr5; have B5 := Lib.hid (B4.out.below hb); clear hr5 hb))
        | (at_builtin; refine wpList_append_rd _ rfl (.tmp 27) (.tmp 37) rfl Tryd.underlying25 u8_info w.heap.size (.slice A4 (M + 8) c4) (M + 8) (T ++ beb 4 so ++ beb 1 fr ++ beb 3 X) rfl B5.out.1 A5 16 c5 ([hi, ji, la, de].flatMap (beb 4)) rfl R5.out (by omega) B5.out.2.size ?_; intro v6 w6 hown6 hg6 _; obtain ⟨A6, c6, hv6⟩ := own_formN hown6; subst hv6; have B6 := Lib.hid (B5.out.more hown6 hg6); clear hown6 hg6))
      go_roundw
      case rel => exact ⟨k + 1, M + 8 + 16, A6, c6, by omega, by omega, by go_num, rfl, Lib.hid (by rw [HV.out]; simp only [repB]; rw [← HLB.out]; simp only [← List.append_assoc]; have := B6.out; simp only [List.flatMap_cons, List.flatMap_nil, List.append_nil, ← List.append_assoc] at this; exact this)⟩
      case measure => simp [intOf]; omega
    · obtain rfl : k = n := by omega
      rw [show L.take k = L by rw [← HN.out, List.take_length]] at HL
      have hm : M = (L.flatMap repB).length := HL.out.len.symm
      subst hm
      go_wp2
      go_ret
      exact ⟨A1, c1, rfl, HL.out⟩
end Go.Proofs.YtacaempcbdekaaaDoor

namespace Go.Proofs.YtacaempcbdekaaaDoor
open Go.RowKit
set_option linter.unusedVariables false

theorem strCells_txt (t : List UInt8) : Lib.strCells (txt t) = cells t := by simp [Lib.strCells, txt, cells]
theorem size_txt (t : List UInt8) : (txt t).size = t.length := by simp [txt, ByteArray.size]
/-- A text's bytes. -/
theorem wpList_app_str {w : World} {ops : Array Oper} {rest : List Oper} {o : Oper} {a : Act} {Q : Exit → Act → World → Prop} (hgd : o.guard = none) (s x : Operand)
    (ho : o.op = .call { callee := .builtin .append, args := #[s, x], argTypes := #[25, 9] }) (w0 : World) (A : Option Addr) (n c : Nat) (bs t : List UInt8) (hs : a.eval s = .slice A n c) (hown : BO w0 w A n c bs) (hx : a.eval x = .string (txt t)) (hn : n ≤ 1000000) (ht : t.length ≤ 1000000)
    (h : ∀ A' c' w', BO w0 w' A' (n + t.length) c' (bs ++ t) → w.grownBy w' (Value.slice A n c).ownBlock → wpList Tryd.prog ops Q rest (a.put o.dst (.slice A' (n + t.length) c')) w') : wpList Tryd.prog ops Q (o :: rest) a w := by
  obtain ⟨i, hi, hz, hsz, hby⟩ := info_parts u8_info
  have e := size_txt t
  refine Lib.wpList_append_own_string (P := Tryd.prog) w hgd s x 25 9 ho w0.heap.size 5 i Tryd.underlying25 Tryd.underlying9 hi hz hsz hby (.slice A n c) n (cells bs) hs hown.1 (txt t) hx (by simp only [maxLen]; omega) (by omega) hown.2.size (fun v' w' h1 h2 _ => ?_)
  rw [e, strCells_txt, ← cells_append] at h1
  obtain ⟨A', c', rfl⟩ := own_formN h1
  exact h A' c' w' (hown.more h1 h2) h2
theorem zero_cells (k : Nat) : Builtin.zeroCells #[Value.int .u8 0] k = (cells (List.replicate k 0)).toArray := by
  rw [cells_replicate]
  unfold Builtin.zeroCells
  apply Array.ext
  · simp
  · intro i h1 h2
    simp [Nat.mod_one]
theorem run_app_zeros (w : World) (base : Nat) (ty : TypeId) (v : Value) (n k : Nat) (bs : List UInt8) (hown : w.ownsRow base 5 1 v n (cells bs)) (hk : 1 ≤ k) (hn : n ≤ 1000000) (hk2 : k ≤ 1000000) (hbase : base ≤ w.heap.size) :
    ∃ v' w', (Builtin.append_ #[25, 3] ty #[v, .int .i64 (k : Int)]).run Tryd.prog w = .ok v' w' ∧ w'.ownsRow base 5 1 v' (n + k) (cells (bs ++ List.replicate k 0)) ∧ w.grownBy w' v.ownBlock := by
  obtain ⟨i, hi, hz, hsz, hby⟩ := info_parts u8_info
  have hl : (cells bs).length = n := by simpa using hown.1
  have hlen : (cells (bs ++ List.replicate k 0)).length = (n + k) * 1 := by rw [length_cells, List.length_append, List.length_replicate, ← length_cells bs, hl, Nat.mul_one]
  have hzc : (Value.int .u8 0).cells = #[.int .u8 0] := rfl
  have grown : ∀ (old : Nat) (row : Option Nat), old < n + k →
      (w.drew.alloc (.cells ((cells bs).toArray ++ Builtin.zeroCells (Value.int .u8 0).cells k ++ Builtin.zeroCells (Value.int .u8 0).cells (grownCap w (n + k) old 5 - (n + k))) 5)).ownsRow base 5 1
        (.slice (some ⟨w.heap.size, 0, none⟩) (n + k) (grownCap w (n + k) old 5)) (n + k) (cells (bs ++ List.replicate k 0)) ∧
      w.grownBy (w.drew.alloc (.cells ((cells bs).toArray ++ Builtin.zeroCells (Value.int .u8 0).cells k ++ Builtin.zeroCells (Value.int .u8 0).cells (grownCap w (n + k) old 5 - (n + k))) 5)) row := by
    intro old row ho
    have hge := grownCap_ge w (n + k) old 5
    have hcm : grownCap w (n + k) old 5 ≤ maxLen := grownCap_le_maxLen w (n + k) old 5 (by simp only [maxLen]; omega)
    refine ⟨⟨hlen, .inr ⟨w.heap.size, _, _, rfl, hbase, heap_alloc_new w.drew _, hge, hcm, ?_, ?_⟩⟩, ⟨rfl, rfl, rfl, by simp, fun q hq _ => heap_alloc_old w.drew _ hq⟩⟩
    · rw [hzc, zero_cells, zero_cells]
      simp only [Array.size_append, List.size_toArray, length_cells, List.length_replicate, hl, Nat.mul_one]
      rw [length_cells] at hl
      omega
    · rw [hzc, zero_cells, zero_cells]
      simp only [Array.toList_append, List.append_assoc]
      rw [← List.append_assoc, ← cells_append, ← hlen]
      exact List.take_left
  rcases hown.2 with ⟨rfl, rfl⟩ | ⟨g, cap, cur, rfl, hbg, hg, hnc, hcm, hcs, htake⟩
  · have hb : bs = [] := List.eq_nil_of_length_eq_zero (by rw [← length_cells, hl])
    subst hb
    have hr := Lib.run_append_grow_zeros (P := Tryd.prog) w 25 3 ty 5 i (.int .u8 0) .i64 .i64 Tryd.underlying25 Tryd.underlying3 hi hz none 0 0 (cells []) (by rw [hsz]; exact run_firstCells_none w.drew 1 0 0 0) k (by omega) (by omega) (by omega) (by omega) (by rw [hby]; omega) (growslice_fits (by omega) (by rw [hby]; omega))
    obtain ⟨g1, g2⟩ := grown 0 (Value.slice none 0 0).ownBlock (by omega)
    exact ⟨_, _, hr, g1, g2⟩
  · by_cases hroom : n + k ≤ cap
    · have hB : BlkV w g 5 cur.toList := by simpa [BlkV] using hg
      have hcl : cur.toList.length = cap := by rw [Array.length_toList, hcs]; omega
      have hz1 : ∀ v ∈ (List.replicate k (Value.int .u8 0)), v.oneCell' = true := by intro v hv; rw [(List.mem_replicate.1 hv).2]; rfl
      obtain ⟨s1, s2⟩ := set_cells g (List.replicate k (Value.int .u8 0)) n w cur.toList hB (by rw [List.length_replicate, hcl]; omega)
      have hst := run_storeCells_cells (P := Tryd.prog) g n (List.replicate k (Value.int .u8 0)) 0 w (fun j hj => by rw [List.length_replicate] at hj; rw [Nat.add_zero, hB.cell]; simp; omega) (fun j _ => hB.frozen _) hz1
      simp only [Nat.add_zero] at hst
      refine ⟨.slice (some ⟨g, 0, none⟩) (n + k) cap, w.setCells g n (List.replicate k (Value.int .u8 0)), ?_, ⟨hlen, .inr ⟨g, cap, _, rfl, hbg, s1, hroom, hcm, ?_, ?_⟩⟩, s2.grown⟩
      · have hw : IntKind.i64.wrap (k : Int) = (k : Int) := by rw [IntKind.wrap_i64]; omega
        have hb2 : ¬ ((281474976710656 : Int) < (k : Int)) := by omega
        have hk0 : ¬ k = 0 := by omega
        simp [Builtin.append_, run_underlying Tryd.underlying25, run_underlying Tryd.underlying3, sizeOf, typeInfo, zeroValue, hi, hz, hsz, hby, asInt, asIntOf, hw, hb2, hk0, hroom, Addr.add_lit, hzc, zero_cells, cells_replicate, hst]
        intro h; omega
      · simp [splice]; omega
      · rw [Nat.mul_one] at htake ⊢
        rw [cells_append, cells_replicate, ← htake]
        simp only [splice, List.length_replicate, UInt8.toNat_zero]
        rw [← List.append_assoc, List.take_left' (by simp only [List.length_append, List.length_take, List.length_replicate]; omega)]
        rfl
    · have holds : ∀ j u, (cells bs)[j]? = some u → w.cell? ((⟨g, 0, none⟩ : Addr).add j) = some u := hown.cells (g := g) rfl
      have hr := Lib.run_append_grow_zeros (P := Tryd.prog) w 25 3 ty 5 i (.int .u8 0) .i64 .i64 Tryd.underlying25 Tryd.underlying3 hi hz (some ⟨g, 0, none⟩) n cap (cells bs) (by rw [hsz]; exact run_firstCells_some w.drew 1 n ⟨g, 0, none⟩ n cap (cells bs) (by rw [hl, Nat.mul_one]) holds) k (by omega) (by omega) (by omega) (by omega) (by rw [hby]; omega) (growslice_fits (by omega) (by rw [hby]; omega))
      obtain ⟨g1, g2⟩ := grown cap (Value.slice (some ⟨g, 0, none⟩) n cap).ownBlock (by omega)
      exact ⟨_, _, hr, g1, g2⟩
/-- Zeros. -/
theorem wpList_app_zeros {w : World} {ops : Array Oper} {rest : List Oper} {o : Oper} {a : Act} {Q : Exit → Act → World → Prop} (hgd : o.guard = none) (s x : Operand)
    (ho : o.op = .call { callee := .builtin .append, args := #[s, x], argTypes := #[25, 3] }) (w0 : World) (A : Option Addr) (n c k : Nat) (bs : List UInt8) (hs : a.eval s = .slice A n c) (hown : BO w0 w A n c bs) (hx : a.eval x = .int .i64 (k : Int)) (hk : 1 ≤ k) (hn : n ≤ 1000000) (hk2 : k ≤ 1000000)
    (h : ∀ A' c' w', BO w0 w' A' (n + k) c' (bs ++ List.replicate k 0) → w.grownBy w' (Value.slice A n c).ownBlock → wpList Tryd.prog ops Q rest (a.put o.dst (.slice A' (n + k) c')) w') : wpList Tryd.prog ops Q (o :: rest) a w := by
  refine wpList_plain hgd fun K hK => ?_
  obtain ⟨v', w', hr, h1, h2⟩ := run_app_zeros w w0.heap.size o.type (.slice A n c) n k bs hown.1 hk hn hk2 hown.2.size
  obtain ⟨A', c', rfl⟩ := own_formN h1
  unfold Oper.wp execOp
  simp only [ho, resolve, invoke, builtin, Sem.run_bind, Sem.run_pure, Result.andThen_ok, List.map_toArray, List.map_cons, List.map_nil, hs, hx, hr]
  exact hK _ _ (h A' c' w' (hown.more h1 h2) h2)
end Go.Proofs.YtacaempcbdekaaaDoor

namespace Go.Proofs.YtacaempcbdekaaaDoor
open Go.RowKit
set_option linter.unusedVariables false

theorem rd_two (w : World) (q : Nat) (h : q < 256) : RdS (w.alloc (.cells #[.int .u8 1, .int .u8 (q : Int)] 5)) (some ⟨w.heap.size, 0, none⟩) 2 2 (beb 1 1 ++ beb 1 q) := by
  have e : beb 1 1 ++ beb 1 q = [1, UInt8.ofNat q] := by rw [beb_succ 0 q, beb_succ 0 1]; rfl
  rw [e]
  have hB : Blk (w.alloc (.cells #[.int .u8 1, .int .u8 (q : Int)] 5)) w.heap.size 5 [1, UInt8.ofNat q] := Blk.new_at _ _ _ _ _ rfl (by simp [cells]; omega)
  exact hB.rd rfl (by omega) (by simp [maxLen])

set_option maxRecDepth 100000 in
set_option maxHeartbeats 1000000 in
theorem namBytes_any (A : Option Addr) (n c : Nat) (L : List (Nat × List UInt8)) (w : World) (hn : L.length = n) (hs : n ≤ 1000) (hf : ∀ x ∈ L, x.1 < 4294967296 ∧ nameP (txt x.2)) (h : RdG 2 w A (L.map cNam)) :
    Calls Tryd.prog 43 #[.slice A n c] w fun e w' => ∃ A' c', e = .returned (.slice A' (L.flatMap namB).length c') ∧ BO w w' A' (L.flatMap namB).length c' (L.flatMap namB) := by
  have HR := Lib.hid h
  have HN := Lib.hid hn
  have HF := Lib.hid hf
  clear h hn hf
  go_enter Tryd.func43, Tryd.ntmps43
  go_wp2
  go_loopw [3, 8] (fun v i wr => ∃ (k M : Nat) (A' : Option Addr) (c' : Nat), k ≤ n ∧ M ≤ 26 * k ∧ i = .int .i64 k ∧ v = .slice A' M c' ∧ Hid (BO w wr A' M c' ((L.take k).flatMap namB))) (fun _ i _ => n - (intOf i).toNat)
  case atStart => exact ⟨0, 0, none, 0, by omega, by omega, rfl, rfl, Lib.hid (BO.nil w)⟩
  case round =>
    obtain ⟨k, M, A1, c1, hk, hM, rfl, rfl, HL⟩ := hrel
    by_cases hkn : k < n
    · have hkl : k < L.length := by rw [HN.out]; exact hkn
      obtain ⟨b, off, rfl, hat⟩ := HR.out.at_ hkl
      have hxf := HF.out _ (List.getElem_mem hkl)
      have HV := Lib.hid (flat_snoc namB hkl)
      have HG := Lib.hid (hat wr HL.out.2)
      obtain ⟨x, hx⟩ : ∃ x, x = L[k] := ⟨_, rfl⟩
      rw [← hx] at hxf HV HG
      obtain ⟨T, hT⟩ : ∃ T, T = (L.take k).flatMap namB := ⟨_, rfl⟩
      rw [← hT] at HV HL
      clear hx hat hT
      have hsz := HL.out.2.size
      have hM6 : M ≤ 26 * 1000 := by omega
      obtain ⟨s, t⟩ := x
      obtain ⟨l1, hnm⟩ := hxf
      simp only at l1 hnm
      have e1 : IntKind.u64.wrap (s : Int) = (s : Int) := by rw [IntKind.wrap_u64]; omega
      have hsz1 := size_txt t
      have l2 : t.length ≤ 16 := by have := hnm.2.1; omega
      have l3 : 1 ≤ zb t.length ∧ zb t.length ≤ 4 := by unfold zb; omega
      have HZ := Lib.hid (fun W => zerosBehind_any t W (by omega))
      clear hnm
      obtain ⟨N, hN⟩ : ∃ N, N = t.length := ⟨_, rfl⟩
      rw [← hN] at hsz1 l2 l3 HZ
      obtain ⟨Z, hZ⟩ : ∃ Z, Z = zb N := ⟨_, rfl⟩
      rw [← hZ] at l3 HZ
      have e2 : IntKind.u8.wrap (N : Int) = (N : Int) := by rw [IntKind.wrap_u8]; omega
      have HN2 := Lib.hid hN
      have HZ2 := Lib.hid hZ
      clear hN hZ
      go_wp2_with (first
        | (with_reducible refine wpList_ld rfl 52 (.tmp 10) rfl b (off + k * 2) rfl (cNam (s, t)) HG.out (rowNam rfl) ?_)
        | ((refine wpList_st rfl 52 (.tmp 5) (.tmp 11) rfl wr.heap.size 0 (cNam (s, t)) rfl (by with_unfolding_all rfl) 52 zNam (BlkV.new wr _ _) (Nat.le_refl 2) (rowNam rfl) (cNam_one _) ?_); intro w1 hB1 ho1; rw [splice_all _ _ (by rfl)] at hB1; have k0 : w1.cell? ⟨wr.heap.size, 0, none⟩ = some (.int .u32 (s : Int)) := (hB1.cell 0).trans rfl; have k1 : w1.cell? ⟨wr.heap.size, 1, none⟩ = some (.string (txt t)) := (hB1.cell 1).trans rfl; have B1 := Lib.hid (HL.out.below (((Below.refl _ _).alloc (Nat.le_refl _) _).trans (ho1.below (Nat.le_refl _)))); have V1 := Lib.hid hB1; clear hB1 ho1)
        | (go_at_call 34; ((with_reducible refine (put_bo w _ A1 M c1 (M + 4) _ 4 s _ _ (by omega) (by omega) (by omega) B1.out (by omega) (by omega) (by omega) (by omega)).mono ?_); rintro e w2 ⟨A2, c2, rfl, hbo, hb⟩; have B2 := Lib.hid hbo; have V2 := Lib.hid (V1.out.below hb V1.out.lt); have k2_0 : w2.cell? ⟨wr.heap.size, 0, none⟩ = some (.int .u32 (s : Int)) := (V2.out.cell 0).trans rfl; have k2_1 : w2.cell? ⟨wr.heap.size, 1, none⟩ = some (.string (txt t)) := (V2.out.cell 1).trans rfl; clear hbo hb))
        | (at_builtin; refine wpList_append_rd _ rfl (.tmp 17) (.tmp 22) rfl Tryd.underlying25 u8_info w.heap.size (.slice A2 (M + 4) c2) (M + 4) (T ++ beb 4 s) rfl (B2.out.1.alloc _) (some ⟨w2.heap.size, 0, none⟩) 2 2 (beb 1 1 ++ beb 1 N) rfl (rd_two w2 N (by omega)) (by omega) (by have := B2.out.2.size; simp; omega) ?_; intro v3 w3 hown3 hg3 _; obtain ⟨A3, c3, hv3⟩ := own_formN hown3; subst hv3; have B3 := Lib.hid ((B2.out.below ((Below.refl _ _).alloc (Nat.le_refl _) _)).more hown3 hg3); have V3 := Lib.hid ((V2.out.alloc (.cells #[.int .u8 1, .int .u8 (N : Int)] 5)).grown hg3 (fun e => own_ne B2.out.1 V2.out (by decide) e.symm)); have k3_1 : w3.cell? ⟨wr.heap.size, 1, none⟩ = some (.string (txt t)) := (V3.out.cell 1).trans rfl; clear hown3 hg3)
        | (at_builtin; refine wpList_app_str rfl (.tmp 24) (.tmp 26) rfl w A3 (M + 6) c3 _ t rfl B3.out rfl (by omega) (by have := HN2.out; omega) ?_; intro A4 c4 w4 hb4 hx4; have B4 := Lib.hid hb4; have V4 := Lib.hid (V3.out.grown hx4 (fun e => own_ne B3.out.1 V3.out (by decide) e.symm)); have k4_1 : w4.cell? ⟨wr.heap.size, 1, none⟩ = some (.string (txt t)) := (V4.out.cell 1).trans rfl; clear hb4 hx4)
        | (go_at_call 55; ((with_reducible refine (Hid.out HZ _).mono ?_); rintro e wx ⟨rfl, rfl⟩))
        | (at_builtin; refine wpList_app_zeros rfl (.tmp 28) (.tmp 31) rfl w A4 (M + 6 + t.length) c4 Z _ rfl B4.out rfl l3.1 (by have := HN2.out; omega) (by omega) ?_; intro A5 c5 w5 hb5 hx5; have B5 := Lib.hid hb5; clear hb5 hx5))
      go_roundw
      case rel => exact ⟨k + 1, M + 6 + t.length + Z, A5, c5, by omega, by have := HN2.out; omega, by go_num, rfl, Lib.hid (by rw [HV.out]; simp only [namB]; rw [← HN2.out, ← HZ2.out]; simp only [← List.append_assoc]; have := B5.out; rw [← HN2.out] at this; simp only [← List.append_assoc] at this; exact this)⟩
      case measure => simp [intOf]; omega
    · obtain rfl : k = n := by omega
      rw [show L.take k = L by rw [← HN.out, List.take_length]] at HL
      have hm : M = (L.flatMap namB).length := HL.out.len.symm
      subst hm
      go_wp2
      go_ret
      exact ⟨A1, c1, rfl, HL.out⟩
end Go.Proofs.YtacaempcbdekaaaDoor

namespace Go.Proofs.YtacaempcbdekaaaDoor
open Go.RowKit
set_option linter.unusedVariables false

theorem own_cut0 {w : World} {base n c : Nat} {e : TypeId} {A : Option Addr} {xs : List Value} (h : w.ownsRow base e 1 (.slice A n c) n xs) : w.ownsRow base e 1 (.slice A 0 c) 0 [] := by
  refine ⟨by simp, ?_⟩
  rcases h.2 with ⟨hv, _⟩ | ⟨g, cap, cur, hv, hb, hg, hnc, hcm, hcs, _⟩
  · injection hv with h1 h2 h3
    subst h1; subst h3
    exact .inl ⟨rfl, rfl⟩
  · injection hv with h1 h2 h3
    subst h1; subst h3
    exact .inr ⟨g, _, cur, rfl, hb, hg, Nat.zero_le _, hcm, hcs, by simp⟩
theorem own_cap {w : World} {base n c : Nat} {e : TypeId} {A : Option Addr} {xs : List Value} (h : w.ownsRow base e 1 (.slice A n c) n xs) : n ≤ c ∧ c ≤ maxLen := by
  rcases h.2 with ⟨hv, h0⟩ | ⟨g, cap, cur, hv, hb, hg, hnc, hcm, _⟩
  · injection hv with h1 h2 h3
    subst h3; subst h0; exact ⟨Nat.le_refl _, by simp⟩
  · injection hv with h1 h2 h3
    subst h3; exact ⟨hnc, hcm⟩

set_option maxRecDepth 100000 in
set_option maxHeartbeats 400000 in
theorem grow_nil (n : Nat) (w : World) (hn : n ≤ 1000000) :
    Calls Tryd.prog 54 #[.slice none 0 0, .int .i64 (n : Int)] w fun e w' => ∃ A c, e = .returned (.slice A 0 c) ∧ BO w w' A 0 c [] := by
  by_cases h0 : 0 < n
  · go_enter Tryd.func54, Tryd.ntmps54
    go_wp2_with (at_builtin; refine wpList_app_zeros rfl (.tmp 20) (.tmp 21) rfl w none 0 0 n [] rfl (BO.nil w) rfl h0 (by omega) hn ?_; intro A1 c1 w1 hb1 hx1; have B1 := Lib.hid hb1; have hcap := (own_cap hb1.1).2; simp only [maxLen] at hcap; clear hb1 hx1)
    go_ret
    exact ⟨A1, c1, rfl, own_cut0 B1.out.1, B1.out.2⟩
  · have e0 : n = 0 := by omega
    subst e0
    go_enter Tryd.func54, Tryd.ntmps54
    go_wp2
    go_ret
    exact ⟨none, 0, rfl, BO.nil w⟩

/-- A slice of slices reads as these, one behind the other. -/
def PartsRd (w : World) (A : Option Addr) (k : Nat) (ps : List (List UInt8)) : Prop :=
  ps.length = k ∧ (0 < k → ∃ b off, A = some ⟨b, off, none⟩ ∧ b < w.heap.size ∧ ∀ j, j < k → ∃ Aj nj cj, w.cell? ⟨b, off + j, none⟩ = some (.slice Aj nj cj) ∧ RdS w Aj nj cj (ps.getD j []))
theorem PartsRd.below {w w' : World} {A : Option Addr} {k : Nat} {ps : List (List UInt8)} (h : PartsRd w A k ps) (hb : Below w.heap.size w w') : PartsRd w' A k ps := by
  refine ⟨h.1, fun hk => ?_⟩
  obtain ⟨b, off, hA, hlt, hc⟩ := h.2 hk
  refine ⟨b, off, hA, Nat.lt_of_lt_of_le hlt hb.size, fun j hj => ?_⟩
  obtain ⟨Aj, nj, cj, h1, h2⟩ := hc j hj
  exact ⟨Aj, nj, cj, (hb.cell (p := ⟨b, off + j, none⟩) hlt).trans h1, h2.below hb⟩
theorem flat_take {ps : List (List UInt8)} {j : Nat} (h : j < ps.length) : (ps.take (j + 1)).flatten = (ps.take j).flatten ++ ps.getD j [] := by
  rw [List.take_add_one, List.getElem?_eq_getElem h, List.flatten_append]
  simp [List.getD, h]
theorem flat_take_le (ps : List (List UInt8)) (j : Nat) : (ps.take j).flatten.length ≤ ps.flatten.length := by
  conv => rhs; rw [← List.take_append_drop j ps]
  rw [List.flatten_append, List.length_append]; omega

set_option maxRecDepth 100000 in
set_option maxHeartbeats 1000000 in
theorem concat_any (A : Option Addr) (k c : Nat) (ps : List (List UInt8)) (w : World) (hp : PartsRd w A k ps) (hk : k ≤ 1000) (hle : ps.flatten.length ≤ 100000) :
    Calls Tryd.prog 40 #[.slice A k c] w fun e w' => ∃ A' c', e = .returned (.slice A' ps.flatten.length c') ∧ BO w w' A' ps.flatten.length c' ps.flatten := by
  have HP := Lib.hid hp
  have HK := Lib.hid hp.1
  have HLE := Lib.hid (fun j => Nat.le_trans (flat_take_le ps j) hle)
  clear hp
  go_enter Tryd.func40, Tryd.ntmps40
  go_wp2
  go_loopw [3, 11] (fun vs vi wx => ∃ j S : Nat, j ≤ k ∧ S ≤ 100000 ∧ vs = .int .i64 (S : Int) ∧ vi = .int .i64 (j : Int) ∧ Hid (S = (ps.take j).flatten.length) ∧ wx = w) (fun _ vi _ => k - (intOf vi).toNat)
  case atStart => exact ⟨0, 0, by omega, by omega, rfl, rfl, Lib.hid (by simp), rfl⟩
  case round =>
    obtain ⟨j, S, hj, hS, rfl, rfl, HS, rfl⟩ := hrel
    by_cases hjk : j < k
    · obtain ⟨b, off, rfl, hlt, hc⟩ := HP.out.2 (by omega)
      obtain ⟨Aj, nj, cj, q1, q2⟩ := hc j hjk
      have hS2 : Hid (S + nj = (ps.take (j + 1)).flatten.length) := Lib.hid (by
        rw [flat_take (by rw [HK.out]; exact hjk), List.length_append, ← HS.out, q2.len])
      have hS3 : S + nj ≤ 100000 := by rw [hS2.out]; exact HLE.out _
      clear hc q2
      go_wp2
      go_roundw
      case rel => exact ⟨j + 1, S + nj, by omega, hS3, by go_num, by go_num, hS2, by trivial⟩
      case measure => simp [intOf]; omega
    · obtain rfl : j = k := by omega
      have HS2 : Hid (S = ps.flatten.length) := Lib.hid (by rw [HS.out, ← HK.out, List.take_length])
      go_wp2_with (go_at_call 54; ((with_reducible refine (grow_nil S _ (by omega)).mono ?_); rintro e w1 ⟨A1, c1, rfl, hb1⟩; have B1 := Lib.hid hb1; clear hb1))
      go_loopw [6, 27] (fun v vi wx => ∃ (i M : Nat) (A' : Option Addr) (c' : Nat), i ≤ j ∧ M ≤ 100000 ∧ v = .slice A' M c' ∧ vi = .int .i64 (i : Int) ∧ Hid (BO wr wx A' M c' ((ps.take i).flatten))) (fun _ vi _ => j - (intOf vi).toNat)
      case atStart => exact ⟨0, 0, A1, c1, by omega, by omega, rfl, rfl, Lib.hid (by simpa using B1.out)⟩
      case round =>
        obtain ⟨i, M, A2, c2, hi, hM, rfl, rfl, HL⟩ := hrel
        by_cases hij : i < j
        · obtain ⟨b, off, rfl, hlt, hc⟩ := (HP.out.below HL.out.2).2 (by omega)
          obtain ⟨Aj, nj, cj, q1, q2⟩ := hc i hij
          have HV := Lib.hid (flat_take (ps := ps) (j := i) (by rw [HK.out]; exact hij))
          have Q2 := Lib.hid q2
          have hM2 : M + nj ≤ 100000 := by
            have h1 := HLE.out (i + 1)
            rw [HV.out, List.length_append, HL.out.len, q2.len] at h1
            exact h1
          clear hc q2
          go_wp2_with (at_builtin; refine wpList_append_rd _ rfl (.tmp 31) (.tmp 32) rfl Tryd.underlying25 u8_info _ (.slice A2 M c2) M ((ps.take i).flatten) rfl HL.out.1 Aj nj cj (ps.getD i []) rfl Q2.out (by omega) HL.out.2.size ?_; intro v3 w3 hown3 hg3 _; obtain ⟨A3, c3, hv3⟩ := own_formN hown3; subst hv3; have B3 := Lib.hid (HL.out.more hown3 hg3); clear hown3 hg3)
          go_roundw
          case rel => exact ⟨i + 1, M + nj, A3, c3, by omega, hM2, rfl, by go_num, Lib.hid (by rw [HV.out]; exact B3.out)⟩
          case measure => simp [intOf]; omega
        · obtain rfl : i = j := by omega
          rw [show ps.take i = ps by rw [← HK.out, List.take_length]] at HL
          have hm : M = ps.flatten.length := HL.out.len.symm
          subst hm
          go_wp2
          go_ret
          exact ⟨A2, c2, rfl, HL.out⟩
end Go.Proofs.YtacaempcbdekaaaDoor

namespace Go.Proofs.YtacaempcbdekaaaDoor
open Go.RowKit
set_option linter.unusedVariables false

theorem tabAll : ∀ i : Fin 256, (Lib.len8tab.data[i.val]?).map (·.toNat) = some (Lib.bitLen i.val) := by decide +kernel
theorem tab8 (i : Nat) (h : i < 256) {hp : i < Lib.len8tab.size} : (Lib.len8tab[i]'hp).toNat = Lib.bitLen i := by
  have e := tabAll ⟨i, h⟩
  have hp2 : i < Lib.len8tab.data.size := hp
  simp only [Array.getElem?_eq_getElem hp2, Option.map_some, Option.some.injEq] at e
  exact e
theorem tabRun (i : Nat) (h : i < 256) (w : World) : (Instr.index 9 (.string Lib.len8tab) (.int .u8 (i : Int))).run Tryd.prog w = .ok (.int .u8 ((Lib.bitLen i : Nat) : Int)) w := by
  have hs : Lib.len8tab.size = 256 := by decide +kernel
  have h1 : (i : Int) < 256 := by omega
  simp [Instr.index, go_sem, asIntOf, run_underlying Tryd.underlying9, hs, h]
  exact congrArg Nat.cast (tab8 i h)
theorem cut_len (x y k : Nat) (hx : x < 18446744073709551616) (h : 2 ^ k ≤ x) (hy : y = x / 2 ^ k) : Lib.bitLen x = k + Lib.bitLen y := by
  rw [hy]; exact Lib.bitLen_shift k x h hx
/-- The table's part. -/
theorem low_len (x : Nat) (h : x < 256) : Lib.bitLen x ≤ 8 := Lib.bitLen_le8 ⟨x, h⟩
set_option maxHeartbeats 2000000 in
set_option maxRecDepth 4000 in
theorem len64_any (X : Nat) (w : World) (hX : X < 18446744073709551616) : Calls Tryd.prog 53 #[.int .u64 (X : Int)] w fun e w' => e = .returned (.int .i64 (Lib.bitLen X : Int)) ∧ w = w' := by
  have HX : Lib.bitLen X = 0 + Lib.bitLen X := (Nat.zero_add _).symm
  by_cases g32 : (4294967296 : Int) ≤ (X : Int)
  · obtain ⟨y32, hy32⟩ : ∃ y32, y32 = X / 2 ^ 32 := ⟨_, rfl⟩
    have q32 := cut_len X y32 32 (by omega) (by simp only [Nat.reducePow]; omega) hy32
    simp only [Nat.reducePow] at hy32
    have e32 : (X : Int) / 4294967296 = (y32 : Int) := by omega
    replace HX : Lib.bitLen X = 32 + Lib.bitLen y32 := by omega
    have hY32 : y32 < 4294967296 := by omega
    clear q32
    by_cases g16 : (65536 : Int) ≤ (y32 : Int)
    · obtain ⟨y16, hy16⟩ : ∃ y16, y16 = y32 / 2 ^ 16 := ⟨_, rfl⟩
      have q16 := cut_len y32 y16 16 (by omega) (by simp only [Nat.reducePow]; omega) hy16
      simp only [Nat.reducePow] at hy16
      have e16 : (y32 : Int) / 65536 = (y16 : Int) := by omega
      replace HX : Lib.bitLen X = 48 + Lib.bitLen y16 := by omega
      have hY16 : y16 < 65536 := by omega
      clear q16
      by_cases g8 : (256 : Int) ≤ (y16 : Int)
      · obtain ⟨y8, hy8⟩ : ∃ y8, y8 = y16 / 2 ^ 8 := ⟨_, rfl⟩
        have q8 := cut_len y16 y8 8 (by omega) (by simp only [Nat.reducePow]; omega) hy8
        simp only [Nat.reducePow] at hy8
        have e8 : (y16 : Int) / 256 = (y8 : Int) := by omega
        replace HX : Lib.bitLen X = 56 + Lib.bitLen y8 := by omega
        have hY8 : y8 < 256 := by omega
        clear q8
        have hl := low_len y8 (by omega)
        have hix := fun wz => tabRun y8 (by omega) wz
        obtain ⟨L, hL⟩ : ∃ L, L = Lib.bitLen y8 := ⟨_, rfl⟩
        rw [← hL] at hl hix HX
        have b1 : IntKind.u8.wrap (y8 : Int) = (y8 : Int) := by rw [IntKind.wrap_u8]; omega
        have b2 : IntKind.i64.wrap (L : Int) = (L : Int) := by rw [IntKind.wrap_i64]; omega
        have b3 : IntKind.i64.wrap (56 + (L : Int)) = 56 + (L : Int) := by rw [IntKind.wrap_i64]; omega
        have HXX := Lib.hid HX
        clear HX hL hl hX hy32 hY32 hy16 hY16 hy8 hY8
        go_enter Tryd.func53, Tryd.ntmps53
        go_wp2
        go_ret
        exact ⟨by rw [HXX.out]; simp, rfl⟩
      · have hl := low_len y16 (by omega)
        have hix := fun wz => tabRun y16 (by omega) wz
        obtain ⟨L, hL⟩ : ∃ L, L = Lib.bitLen y16 := ⟨_, rfl⟩
        rw [← hL] at hl hix HX
        have b1 : IntKind.u8.wrap (y16 : Int) = (y16 : Int) := by rw [IntKind.wrap_u8]; omega
        have b2 : IntKind.i64.wrap (L : Int) = (L : Int) := by rw [IntKind.wrap_i64]; omega
        have b3 : IntKind.i64.wrap (48 + (L : Int)) = 48 + (L : Int) := by rw [IntKind.wrap_i64]; omega
        have HXX := Lib.hid HX
        clear HX hL hl hX hy32 hY32 hy16 hY16
        go_enter Tryd.func53, Tryd.ntmps53
        go_wp2
        go_ret
        exact ⟨by rw [HXX.out]; simp, rfl⟩
    · by_cases g8 : (256 : Int) ≤ (y32 : Int)
      · obtain ⟨y8, hy8⟩ : ∃ y8, y8 = y32 / 2 ^ 8 := ⟨_, rfl⟩
        have q8 := cut_len y32 y8 8 (by omega) (by simp only [Nat.reducePow]; omega) hy8
        simp only [Nat.reducePow] at hy8
        have e8 : (y32 : Int) / 256 = (y8 : Int) := by omega
        replace HX : Lib.bitLen X = 40 + Lib.bitLen y8 := by omega
        have hY8 : y8 < 256 := by omega
        clear q8
        have hl := low_len y8 (by omega)
        have hix := fun wz => tabRun y8 (by omega) wz
        obtain ⟨L, hL⟩ : ∃ L, L = Lib.bitLen y8 := ⟨_, rfl⟩
        rw [← hL] at hl hix HX
        have b1 : IntKind.u8.wrap (y8 : Int) = (y8 : Int) := by rw [IntKind.wrap_u8]; omega
        have b2 : IntKind.i64.wrap (L : Int) = (L : Int) := by rw [IntKind.wrap_i64]; omega
        have b3 : IntKind.i64.wrap (40 + (L : Int)) = 40 + (L : Int) := by rw [IntKind.wrap_i64]; omega
        have HXX := Lib.hid HX
        clear HX hL hl hX hy32 hY32 hy8 hY8
        go_enter Tryd.func53, Tryd.ntmps53
        go_wp2
        go_ret
        exact ⟨by rw [HXX.out]; simp, rfl⟩
      · have hl := low_len y32 (by omega)
        have hix := fun wz => tabRun y32 (by omega) wz
        obtain ⟨L, hL⟩ : ∃ L, L = Lib.bitLen y32 := ⟨_, rfl⟩
        rw [← hL] at hl hix HX
        have b1 : IntKind.u8.wrap (y32 : Int) = (y32 : Int) := by rw [IntKind.wrap_u8]; omega
        have b2 : IntKind.i64.wrap (L : Int) = (L : Int) := by rw [IntKind.wrap_i64]; omega
        have b3 : IntKind.i64.wrap (32 + (L : Int)) = 32 + (L : Int) := by rw [IntKind.wrap_i64]; omega
        have HXX := Lib.hid HX
        clear HX hL hl hX hy32 hY32
        go_enter Tryd.func53, Tryd.ntmps53
        go_wp2
        go_ret
        exact ⟨by rw [HXX.out]; simp, rfl⟩
  · by_cases g16 : (65536 : Int) ≤ (X : Int)
    · obtain ⟨y16, hy16⟩ : ∃ y16, y16 = X / 2 ^ 16 := ⟨_, rfl⟩
      have q16 := cut_len X y16 16 (by omega) (by simp only [Nat.reducePow]; omega) hy16
      simp only [Nat.reducePow] at hy16
      have e16 : (X : Int) / 65536 = (y16 : Int) := by omega
      replace HX : Lib.bitLen X = 16 + Lib.bitLen y16 := by omega
      have hY16 : y16 < 65536 := by omega
      clear q16
      by_cases g8 : (256 : Int) ≤ (y16 : Int)
      · obtain ⟨y8, hy8⟩ : ∃ y8, y8 = y16 / 2 ^ 8 := ⟨_, rfl⟩
        have q8 := cut_len y16 y8 8 (by omega) (by simp only [Nat.reducePow]; omega) hy8
        simp only [Nat.reducePow] at hy8
        have e8 : (y16 : Int) / 256 = (y8 : Int) := by omega
        replace HX : Lib.bitLen X = 24 + Lib.bitLen y8 := by omega
        have hY8 : y8 < 256 := by omega
        clear q8
        have hl := low_len y8 (by omega)
        have hix := fun wz => tabRun y8 (by omega) wz
        obtain ⟨L, hL⟩ : ∃ L, L = Lib.bitLen y8 := ⟨_, rfl⟩
        rw [← hL] at hl hix HX
        have b1 : IntKind.u8.wrap (y8 : Int) = (y8 : Int) := by rw [IntKind.wrap_u8]; omega
        have b2 : IntKind.i64.wrap (L : Int) = (L : Int) := by rw [IntKind.wrap_i64]; omega
        have b3 : IntKind.i64.wrap (24 + (L : Int)) = 24 + (L : Int) := by rw [IntKind.wrap_i64]; omega
        have HXX := Lib.hid HX
        clear HX hL hl hX hy16 hY16 hy8 hY8
        go_enter Tryd.func53, Tryd.ntmps53
        go_wp2
        go_ret
        exact ⟨by rw [HXX.out]; simp, rfl⟩
      · have hl := low_len y16 (by omega)
        have hix := fun wz => tabRun y16 (by omega) wz
        obtain ⟨L, hL⟩ : ∃ L, L = Lib.bitLen y16 := ⟨_, rfl⟩
        rw [← hL] at hl hix HX
        have b1 : IntKind.u8.wrap (y16 : Int) = (y16 : Int) := by rw [IntKind.wrap_u8]; omega
        have b2 : IntKind.i64.wrap (L : Int) = (L : Int) := by rw [IntKind.wrap_i64]; omega
        have b3 : IntKind.i64.wrap (16 + (L : Int)) = 16 + (L : Int) := by rw [IntKind.wrap_i64]; omega
        have HXX := Lib.hid HX
        clear HX hL hl hX hy16 hY16
        go_enter Tryd.func53, Tryd.ntmps53
        go_wp2
        go_ret
        exact ⟨by rw [HXX.out]; simp, rfl⟩
    · by_cases g8 : (256 : Int) ≤ (X : Int)
      · obtain ⟨y8, hy8⟩ : ∃ y8, y8 = X / 2 ^ 8 := ⟨_, rfl⟩
        have q8 := cut_len X y8 8 (by omega) (by simp only [Nat.reducePow]; omega) hy8
        simp only [Nat.reducePow] at hy8
        have e8 : (X : Int) / 256 = (y8 : Int) := by omega
        replace HX : Lib.bitLen X = 8 + Lib.bitLen y8 := by omega
        have hY8 : y8 < 256 := by omega
        clear q8
        have hl := low_len y8 (by omega)
        have hix := fun wz => tabRun y8 (by omega) wz
        obtain ⟨L, hL⟩ : ∃ L, L = Lib.bitLen y8 := ⟨_, rfl⟩
        rw [← hL] at hl hix HX
        have b1 : IntKind.u8.wrap (y8 : Int) = (y8 : Int) := by rw [IntKind.wrap_u8]; omega
        have b2 : IntKind.i64.wrap (L : Int) = (L : Int) := by rw [IntKind.wrap_i64]; omega
        have b3 : IntKind.i64.wrap (8 + (L : Int)) = 8 + (L : Int) := by rw [IntKind.wrap_i64]; omega
        have HXX := Lib.hid HX
        clear HX hL hl hX hy8 hY8
        go_enter Tryd.func53, Tryd.ntmps53
        go_wp2
        go_ret
        exact ⟨by rw [HXX.out]; simp, rfl⟩
      · have hl := low_len X (by omega)
        have hix := fun wz => tabRun X (by omega) wz
        obtain ⟨L, hL⟩ : ∃ L, L = Lib.bitLen X := ⟨_, rfl⟩
        rw [← hL] at hl hix
        replace HX : Lib.bitLen X = 0 + L := by omega
        have b1 : IntKind.u8.wrap (X : Int) = (X : Int) := by rw [IntKind.wrap_u8]; omega
        have b2 : IntKind.i64.wrap (L : Int) = (L : Int) := by rw [IntKind.wrap_i64]; omega
        have b3 : IntKind.i64.wrap (0 + (L : Int)) = 0 + (L : Int) := by rw [IntKind.wrap_i64]; omega
        have HXX := Lib.hid HX
        clear HX hL hl hX 
        go_enter Tryd.func53, Tryd.ntmps53
        go_wp2
        go_ret
        exact ⟨by rw [HXX.out]; simp, rfl⟩
theorem aux_spec : ∀ (f x : Nat), x < 2 ^ f → x < 2 ^ Lib.bitLenAux f x ∧ (0 < x → 2 ^ (Lib.bitLenAux f x - 1) ≤ x ∧ 0 < Lib.bitLenAux f x)
  | 0, x, h => by simp at h; subst h; simp [Lib.bitLenAux]
  | f + 1, x, h => by
    unfold Lib.bitLenAux
    by_cases h0 : x = 0
    · subst h0; simp
    · rw [if_neg h0]
      obtain ⟨h1, h2⟩ := aux_spec f (x / 2) (by rw [Nat.pow_succ] at h; omega)
      obtain ⟨L, hL⟩ : ∃ L, L = Lib.bitLenAux f (x / 2) := ⟨_, rfl⟩
      rw [← hL] at h1 h2 ⊢
      refine ⟨by rw [Nat.add_comm 1 L, Nat.pow_succ]; omega, fun _ => ⟨?_, by omega⟩⟩
      rw [Nat.add_sub_cancel_left]
      by_cases h3 : 0 < x / 2
      · obtain ⟨h4, h5⟩ := h2 h3
        obtain ⟨K, rfl⟩ : ∃ K, L = K + 1 := ⟨L - 1, by omega⟩
        rw [Nat.add_sub_cancel] at h4
        rw [Nat.pow_succ]; omega
      · have h6 : x / 2 = 0 := by omega
        rw [h6] at hL
        have h7 : L = 0 := by rw [hL]; cases f <;> simp [Lib.bitLenAux]
        rw [h7]; omega
/-- How many bits a number has. -/
theorem bitLen_spec (x : Nat) (h : x < 18446744073709551616) : x < 2 ^ Lib.bitLen x ∧ (0 < x → 2 ^ (Lib.bitLen x - 1) ≤ x ∧ 0 < Lib.bitLen x) := aux_spec 64 x h
end Go.Proofs.YtacaempcbdekaaaDoor

namespace Go.Proofs.YtacaempcbdekaaaDoor
set_option linter.unusedVariables false

/-- A rate's exponent and its mantissa. -/
def rE (x : Nat) : Nat := Lib.bitLen x - 18
def rM (x : Nat) : Nat := x / 2 ^ rE x
theorem rE_unique (x e : Nat) (hx : x < 18446744073709551616) (h1 : x / 2 ^ e < 262144) (h2 : e = 0 ∨ 262144 ≤ x / 2 ^ (e - 1)) : e = rE x := by
  obtain ⟨s1, s2⟩ := bitLen_spec x hx
  unfold rE
  obtain ⟨L, hL⟩ : ∃ L, L = Lib.bitLen x := ⟨_, rfl⟩
  rw [← hL] at s1 s2 ⊢
  have p18 : (262144 : Nat) = 2 ^ 18 := by decide
  rw [p18] at h1 h2
  have u1 : x < 2 ^ (18 + e) := by
    rw [Nat.pow_add]
    exact (Nat.div_lt_iff_lt_mul (Nat.two_pow_pos e)).1 h1
  rcases h2 with rfl | h2
  · by_cases h0 : 0 < x
    · obtain ⟨s3, s4⟩ := s2 h0
      have : 2 ^ (L - 1) < 2 ^ 18 := Nat.lt_of_le_of_lt s3 u1
      have := (Nat.pow_lt_pow_iff_right (by omega : 1 < 2)).1 this
      omega
    · have hx0 : x = 0 := by omega
      subst hx0
      have h7 : L = 0 := by rw [hL]; decide +kernel
      omega
  · have u2 : 2 ^ (18 + (e - 1)) ≤ x := by
      rw [Nat.pow_add]
      exact (Nat.le_div_iff_mul_le (Nat.two_pow_pos _)).1 h2
    have h0 : 0 < x := Nat.lt_of_lt_of_le (Nat.two_pow_pos _) u2
    obtain ⟨s3, s4⟩ := s2 h0
    have a1 := (Nat.pow_lt_pow_iff_right (by omega : 1 < 2)).1 (Nat.lt_of_le_of_lt s3 u1)
    have a2 := (Nat.pow_lt_pow_iff_right (by omega : 1 < 2)).1 (Nat.lt_of_le_of_lt u2 s1)
    by_cases he : e = 0
    · subst he
      simp only [Nat.zero_sub, Nat.add_zero] at a2 u1
      have := Nat.lt_of_le_of_lt u2 u1
      simp at this
    · omega
theorem rM_lt (x : Nat) (hx : x < 18446744073709551616) : rM x < 262144 := by
  obtain ⟨s1, _⟩ := bitLen_spec x hx
  have p18 : (262144 : Nat) = 2 ^ 18 := by decide
  unfold rM rE
  rw [p18, Nat.div_lt_iff_lt_mul (Nat.two_pow_pos _), ← Nat.pow_add]
  exact Nat.lt_of_lt_of_le s1 (Nat.pow_le_pow_right (by omega) (by omega))
theorem rE_lt (x : Nat) (hx : x < 18446744073709551616) : rE x ≤ 46 := by
  have := Lib.bitLen_le x 64 (by omega) hx
  unfold rE; omega

def Ctl.fit (c : Ctl) : Prop := (-9223372036854775808 ≤ c.k ∧ c.k ≤ 9223372036854775807) ∧ c.so < 4294967296 ∧ c.me < 4294967296 ∧ c.ti < 18446744073709551616 ∧ c.st < 4294967296 ∧ c.pa < 4294967296 ∧ c.oc < 4294967296 ∧ (∀ x ∈ c.reps, x.fit) ∧ (∀ x ∈ c.nams, x.1 < 4294967296) ∧ (∀ x ∈ c.srcs, x < 4294967296) ∧ (∀ x ∈ c.loss, x.1 < 65536 ∧ x.2 < 65536) ∧ (∀ x ∈ c.firs, x.1 < 4294967296 ∧ x.2 < 256) ∧ c.ra < 18446744073709551616

/-- May a packet be? -/
def mayC (c : Ctl) : Prop :=
  (∃ so ti st pa oc L, c = mkSR 200 so ti st pa oc L ∧ L.length ≤ 16 ∧ ∀ x ∈ L, x.ok) ∨
  (∃ so L, c = mkRR 201 so L ∧ L.length ≤ 16 ∧ ∀ x ∈ L, x.ok) ∨
  (∃ L, c = mkSD 202 L ∧ L.length ≤ 16 ∧ ∀ x ∈ L, nameP (txt x.2)) ∨
  (∃ L, c = mkBY 203 L ∧ L.length ≤ 16) ∨
  (∃ so me L, c = mkNA 1 so me L ∧ 1 ≤ L.length ∧ L.length ≤ 16) ∨
  (∃ so me, c = mkPL 2 so me) ∨
  (∃ so L, c = mkFI 3 so L ∧ 1 ≤ L.length ∧ L.length ≤ 16) ∨
  (∃ so L ra, c = mkRE 4 so L ra ∧ L.length ≤ 16 ∧ ra < 9223372036854775808 ∧ rM ra * 2 ^ rE ra = ra)

/-- A packet's type and its count. -/
def typC (c : Ctl) : Nat := if c.k = 1 then 205 else if c.k = 2 ∨ c.k = 3 ∨ c.k = 4 then 206 else c.k.toNat
def cntC (c : Ctl) : Nat := if c.k = 1 ∨ c.k = 2 then 1 else if c.k = 3 then 4 else if c.k = 4 then 15 else c.reps.length + c.nams.length + c.srcs.length
def bodyC (c : Ctl) : List UInt8 :=
  if c.k = 200 then bSR c.so c.ti c.st c.pa c.oc c.reps else if c.k = 201 then bRR c.so c.reps else if c.k = 202 then bSD c.nams else if c.k = 203 then bBY c.srcs
  else if c.k = 1 then bNA c.so c.me c.loss else if c.k = 2 then bPL c.so c.me else if c.k = 3 then bFI c.so c.firs else bRE c.so c.srcs (rM c.ra) (rE c.ra)
/-- A packet's bytes. -/
def wr1 (c : Ctl) : List UInt8 := beb 1 (128 + cntC c) ++ (beb 1 (typC c) ++ (beb 2 ((bodyC c).length / 4) ++ bodyC c))
def wrL (l : List Ctl) : List UInt8 := l.flatMap wr1

theorem namB_four (x : Nat × List UInt8) : (namB x).length % 4 = 0 := by rw [namB_len]; unfold zb; omega
theorem flat_four {α : Type} (f : α → List UInt8) (hf : ∀ x, (f x).length % 4 = 0) : ∀ L : List α, (L.flatMap f).length % 4 = 0
  | [] => by simp
  | a :: r => by
    have h1 := hf a
    have h2 := flat_four f hf r
    rw [List.flatMap_cons, List.length_append]; omega
theorem flat_le {α : Type} (f : α → List UInt8) (n : Nat) : ∀ L : List α, (∀ x ∈ L, (f x).length ≤ n) → (L.flatMap f).length ≤ n * L.length
  | [], _ => by simp
  | a :: r, h => by
    have h1 := h a (by simp)
    have h2 := flat_le f n r (fun x hx => h x (by simp [hx]))
    rw [List.flatMap_cons, List.length_append, List.length_cons, Nat.mul_succ]; omega
end Go.Proofs.YtacaempcbdekaaaDoor

namespace Go.Proofs.YtacaempcbdekaaaDoor
open Go.RowKit
set_option linter.unusedVariables false

theorem rM_le (x : Nat) : rM x * 2 ^ rE x ≤ x := Nat.div_mul_le_self _ _
set_option maxRecDepth 4000 in
set_option maxHeartbeats 400000 in
theorem split_any (x : Nat) (w : World) (hx : x < 18446744073709551616) :
    Calls Tryd.prog 39 #[.int .u64 (x : Int)] w fun r w' => r = .returned (.tuple #[.int .u64 (rM x : Int), .int .i64 (rE x : Int)]) ∧ w = w' := by
  have HL := Lib.hid (fun W => len64_any x W hx)
  have hL64 := Lib.bitLen_le x 64 (by omega) hx
  have hdiv : (x : Int) / 2 ^ rE x = (rM x : Int) := by unfold rM; rw [Int.natCast_ediv]; simp
  have hE : rE x = Lib.bitLen x - 18 := rfl
  obtain ⟨L, hL⟩ : ∃ L, L = Lib.bitLen x := ⟨_, rfl⟩
  rw [← hL] at HL hL64 hE
  obtain ⟨e, he⟩ : ∃ e, e = rE x := ⟨_, rfl⟩
  obtain ⟨m, hm⟩ : ∃ m, m = rM x := ⟨_, rfl⟩
  rw [← he, ← hm] at hdiv
  rw [← he] at hE
  rw [← he, ← hm]
  have e1 : IntKind.i64.wrap ((L : Int) - 18) = (L : Int) - 18 := by rw [IntKind.wrap_i64]; omega
  have e2 : max ((L : Int) - 18) 0 = (e : Int) := by omega
  clear hL he hm hx
  rcases Nat.lt_trichotomy L 18 with h18 | h18 | h18
  · have g1 : (L : Int) - 18 ≤ 0 := by omega
    have g2 : (L : Int) - 18 < 0 := by omega
    have g3 : ¬ 0 < (L : Int) - 18 := by omega
    have g4 : ¬ 0 ≤ (L : Int) - 18 := by omega
    have e0 : e = 0 := by omega
    subst e0
    have hd : Hid ((x : Int) = (m : Int)) := Lib.hid (by simpa using hdiv)
    clear hE h18 e2 hdiv
    go_enter Tryd.func39, Tryd.ntmps39
    go_wp2_with (go_at_call 53; ((with_reducible refine (Hid.out HL _).mono ?_); rintro r wx ⟨rfl, rfl⟩))
    go_ret2
    exact ⟨by rw [← hd.out]; rfl, rfl⟩
  · have e0 : e = 0 := by omega
    subst e0
    have hd : Hid ((x : Int) = (m : Int)) := Lib.hid (by simpa using hdiv)
    clear hE e2 hdiv
    subst h18
    go_enter Tryd.func39, Tryd.ntmps39
    go_wp2_with (go_at_call 53; ((with_reducible refine (Hid.out HL _).mono ?_); rintro r wx ⟨rfl, rfl⟩))
    go_ret2
    exact ⟨by rw [← hd.out]; rfl, rfl⟩
  · have g1 : ¬ (e : Int) ≤ 0 := by omega
    have g2 : (L : Int) - 18 = (e : Int) := by omega
    have g3 : ¬ (e : Int) < 0 := by omega
    have g4 : 0 < (e : Int) := by omega
    clear hE h18 e2
    go_enter Tryd.func39, Tryd.ntmps39
    go_wp2_with (go_at_call 53; ((with_reducible refine (Hid.out HL _).mono ?_); rintro r wx ⟨rfl, rfl⟩))
    go_ret2
    exact ⟨rfl, rfl⟩

set_option maxRecDepth 100000 in
set_option maxHeartbeats 400000 in
theorem rateMayBe_any (x : Nat) (w : World) (hx : x < 18446744073709551616) (b : Bool) (hb : b = true ↔ x < 9223372036854775808 ∧ rM x * 2 ^ rE x = x) :
    Calls Tryd.prog 31 #[.int .u64 (x : Int)] w fun r w' => r = .returned (.bool b) ∧ w = w' := by
  have HS := Lib.hid (fun W => split_any x W hx)
  have hE := rE_lt x hx
  have hle := rM_le x
  obtain ⟨e, he⟩ : ∃ e, e = rE x := ⟨_, rfl⟩
  obtain ⟨m, hm⟩ : ∃ m, m = rM x := ⟨_, rfl⟩
  rw [← he, ← hm] at HS hb hle
  rw [← he] at hE
  obtain ⟨R, hR⟩ : ∃ R, R = m * 2 ^ e := ⟨_, rfl⟩
  rw [← hR] at hb hle
  have hcast : (m : Int) * 2 ^ e = (R : Int) := by rw [hR]; simp
  have e5 : IntKind.u64.wrap ((m : Int) * 2 ^ e) = (R : Int) := by rw [hcast, IntKind.wrap_u64]; omega
  have hsh : Op.shift .shl .u64 (m : Int) .i64 (e : Int) = pure (.int .u64 (R : Int)) := by
    have h0 : ¬ ((e : Int) < 0) := by omega
    unfold Op.shift
    rw [if_neg h0]
    simp only [Int.toNat_natCast, IntKind.bits]
    rw [Nat.min_eq_left (by omega), e5]
  have big : (x : Int) < 18446744073709551616 := by omega
  have c2 : ((R : Int) == (x : Int)) = decide (R = x) := by
    rw [Bool.eq_iff_iff]; simp; omega
  clear he hm hR hcast hE
  by_cases h1 : x < 9223372036854775808
  · have g1 : (x : Int) < 9223372036854775808 := by omega
    by_cases h2 : R = x
    · have hbt : b = true := hb.2 ⟨h1, h2⟩
      subst hbt; subst h2
      clear h1 hb hx hle c2
      go_enter Tryd.func31, Tryd.ntmps31
      go_wp2_with (go_at_call 39; ((with_reducible refine (Hid.out HS _).mono ?_); rintro r wx ⟨rfl, rfl⟩))
      go_ret
      exact ⟨rfl, rfl⟩
    · have hbf : b = false := by cases b with
        | false => rfl
        | true => exact absurd (hb.1 rfl).2 h2
      subst hbf
      have g2 : ¬ (R : Int) = (x : Int) := by omega
      clear h1 hb hx hle c2
      go_enter Tryd.func31, Tryd.ntmps31
      go_wp2_with (go_at_call 39; ((with_reducible refine (Hid.out HS _).mono ?_); rintro r wx ⟨rfl, rfl⟩))
      go_ret
      exact ⟨by simp; omega, rfl⟩
  · have g1 : (9223372036854775808 : Int) ≤ (x : Int) := by omega
    have hbf : b = false := by cases b with
      | false => rfl
      | true => exact absurd (hb.1 rfl).1 h1
    subst hbf
    clear h1 hb hx hle c2 big e5 hsh
    obtain ⟨X, hX⟩ : ∃ X : Int, X = (x : Int) := ⟨_, rfl⟩
    rw [← hX] at HS g1 ⊢
    clear hX
    go_enter Tryd.func31, Tryd.ntmps31
    go_wp2_with (go_at_call 39; ((with_reducible refine (Hid.out HS _).mono ?_); rintro r wx ⟨rfl, rfl⟩))
    go_ret
    exact ⟨rfl, rfl⟩

/-- The cells are this packet's; its lists read. -/
def CtRd (w : World) (cs : List Value) (c : Ctl) : Prop := ∃ (A : Option Addr) (a : Nat) (B : Option Addr) (b' : Nat) (C : Option Addr) (c' : Nat) (D : Option Addr) (d : Nat) (E : Option Addr) (e : Nat),
  cs = ctlC c.k c.so c.me c.ti c.st c.pa c.oc (.slice A c.reps.length a) (.slice B c.nams.length b') (.slice C c.srcs.length c') (.slice D c.loss.length d) (.slice E c.firs.length e) c.ra ∧
  RdG 7 w A (c.reps.map cRep) ∧ RdG 2 w B (c.nams.map cNam) ∧ RdG 1 w C (c.srcs.map cSrc) ∧ RdG 2 w D (c.loss.map cLos) ∧ RdG 2 w E (c.firs.map cFir)
theorem CtRd.below {w w' : World} {cs : List Value} {c : Ctl} (h : CtRd w cs c) (hb : Below w.heap.size w w') : CtRd w' cs c := by
  obtain ⟨A, a, B, b', C, c', D, d, E, e, h0, h1, h2, h3, h4, h5⟩ := h
  exact ⟨A, a, B, b', C, c', D, d, E, e, h0, h1.below hb, h2.below hb, h3.below hb, h4.below hb, h5.below hb⟩
theorem CtRd.one {w : World} {cs : List Value} {c : Ctl} (h : CtRd w cs c) : ∀ v ∈ cs, v.oneCell' = true := by
  obtain ⟨A, a, B, b', C, c', D, d, E, e, h0, _⟩ := h
  subst h0
  exact ctlC_one _ _ _ _ _ _ _ _ _ _ _ _ _ _ _ _ _ _ _ _ _ _ _
theorem CtRd.len {w : World} {cs : List Value} {c : Ctl} (h : CtRd w cs c) : cs.length = 13 := by
  obtain ⟨A, a, B, b', C, c', D, d, E, e, h0, _⟩ := h
  subst h0; rfl
theorem flat_row {α : Type} (f : α → List Value) (sz : Nat) : ∀ (L : List α) (j d : Nat), (∀ x ∈ L, (f x).length = sz) → d < sz → (L.flatMap f)[j * sz + d]? = ((L.map f).getD j [])[d]?
  | [], j, d, _, _ => by simp [List.getD]
  | a :: r, 0, d, h, hd => by
    have h1 := h a (by simp)
    simp only [List.flatMap_cons, Nat.zero_mul, Nat.zero_add, List.map_cons, List.getD_cons_zero]
    rw [List.getElem?_append_left (by omega)]
  | a :: r, j + 1, d, h, hd => by
    have h1 := h a (by simp)
    have ih := flat_row f sz r j d (fun x hx => h x (by simp [hx])) hd
    simp only [List.flatMap_cons, List.map_cons, List.getD_cons_succ]
    rw [List.getElem?_append_right (by rw [h1, Nat.succ_mul]; omega), ← ih, h1]
    congr 1
    rw [Nat.succ_mul]; omega
theorem RdG.of_own {w : World} {base n c sz : Nat} {e : TypeId} {A : Option Addr} {α : Type} {f : α → List Value} {L : List α} (h : w.ownsRow base e sz (.slice A n c) n (L.flatMap f)) (hn : L.length = n) (hf : ∀ x ∈ L, (f x).length = sz) : RdG sz w A (L.map f) := by
  refine ⟨fun r hr => by obtain ⟨x, hx, rfl⟩ := List.mem_map.1 hr; exact hf x hx, fun hp => ?_⟩
  rw [List.length_map, hn] at hp
  rcases h.2 with ⟨_, h0⟩ | ⟨g, cap, cur, hv, hb, hg, _⟩
  · omega
  · injection hv with h1 h2 h3
    subst h1; subst h3
    refine ⟨g, 0, rfl, (Array.getElem?_eq_some_iff.1 hg).1, fun j hj d hd => ?_⟩
    rw [List.length_map, hn] at hj
    rw [Nat.zero_add, ← flat_row f sz L j d hf hd]
    refine h.cellAt (j * sz + d) ?_
    have : (j + 1) * sz ≤ n * sz := Nat.mul_le_mul_right sz hj
    rw [Nat.succ_mul] at this
    omega
theorem OwnC.rd {w : World} {b : Nat} {cs : List Value} {c : Ctl} (h : OwnC w b cs c) : CtRd w cs c := by
  obtain ⟨A, a, B, b', C, c', D, d, E, e, h0, h1, h2, h3, h4, h5⟩ := h
  exact ⟨A, a, B, b', C, c', D, d, E, e, h0, RdG.of_own h1 rfl (fun _ _ => rfl), RdG.of_own h2 rfl (fun _ _ => rfl), RdG.of_own h3 rfl (fun _ _ => rfl), RdG.of_own h4 rfl (fun _ _ => rfl), RdG.of_own h5 rfl (fun _ _ => rfl)⟩
/-- No list is longer than statements look at. -/
def Ctl.small (c : Ctl) : Prop := c.reps.length ≤ 100 ∧ c.nams.length ≤ 100 ∧ c.srcs.length ≤ 100 ∧ c.loss.length ≤ 100 ∧ c.firs.length ≤ 100 ∧ ∀ x ∈ c.nams, x.2.length ≤ 100
def longN (c : Ctl) : Nat := max (max (max (max c.reps.length c.nams.length) c.srcs.length) c.loss.length) c.firs.length
end Go.Proofs.YtacaempcbdekaaaDoor

namespace Go.Proofs.YtacaempcbdekaaaDoor
open Go.RowKit Go.ChangeShapes Go.WideShapes Go.Deep
set_option linter.unusedVariables false

/-- A list of plain data behind rows. -/
theorem choose_rows {α : Type} {f : α → List Value} {P : α → Prop} : ∀ rows : List (List Value), (∀ r ∈ rows, ∃ a, r = f a ∧ P a) → ∃ L : List α, rows = L.map f ∧ ∀ a ∈ L, P a
  | [], _ => ⟨[], rfl, by simp⟩
  | r :: q, h => by
    obtain ⟨a, ha, pa⟩ := h r (by simp)
    obtain ⟨L, hL, hP⟩ := choose_rows q (fun x hx => h x (by simp [hx]))
    refine ⟨a :: L, by rw [ha, hL]; rfl, fun x hx => ?_⟩
    rcases List.mem_cons.1 hx with rfl | hx
    · exact pa
    · exact hP x hx
theorem choose_rel {α β : Type} {R : α → β → Prop} : ∀ rows : List α, (∀ r ∈ rows, ∃ a, R r a) → ∃ L : List β, L.length = rows.length ∧ ∀ (i : Nat) (r : α) (a : β), rows[i]? = some r → L[i]? = some a → R r a
  | [], _ => ⟨[], rfl, by simp⟩
  | r :: q, h => by
    obtain ⟨a, ha⟩ := h r (by simp)
    obtain ⟨L, hl, hL⟩ := choose_rel q (fun x hx => h x (by simp [hx]))
    refine ⟨a :: L, by simp [hl], fun i r' a' hr' ha' => ?_⟩
    cases i with
    | zero => simp at hr' ha'; subst hr'; subst ha'; exact ha
    | succ i => exact hL i r' a' (by simpa using hr') (by simpa using ha')
section
variable {H : Type} {enc : TypeId × Value → H} {P : Program} {w : World}
/-- A struct of one-cell fields is so many cells, each of which reads by its field's type. -/
def FldOk (enc : TypeId × Value → H) (P : Program) (w : World) (fs : Array Field) (r : List Value) : Prop :=
  r.length = fs.size ∧ ∃ n : Nat, ∀ (j : Nat) (f : Field) (x : Value), fs[j]? = some f → r[j]? = some x → ∃ y, DataW.trod enc P w 0 (fun _ => true) true n f.type [x] = some y
/-- A slice of structs of one-cell fields, in one cell. -/
theorem opened_rows {t e : TypeId} {fs : Array Field} {n : Nat} {v : Value} (sz : Nat) (hsz : sz = fs.size) (ht : P.underlying t = some (.slice e)) (he : P.underlying e = some (.struct fs)) (hone : oneCellFields P fs = true) (hC : P.cellsOf e = fs.size) (hpos : 0 < sz)
    (h : ∃ y, DataW.trod enc P w 0 (fun _ => true) true n t [v] = some y) : ∃ (A : Option Addr) (c : Nat) (rows : List (List Value)), v = .slice A rows.length c ∧ rows.length ≤ 9223372036854775807 ∧ RdG sz w A rows ∧ ∀ r ∈ rows, FldOk enc P w fs r := by
  subst hsz
  obtain ⟨y, hf⟩ := h
  rcases open_slice ht hf with ⟨h0, _⟩ | ⟨x, l, c, m, f2, D, Pl, hcs, _, hle, hcap, hm, _, hel⟩
  · simp at h0
    subst h0
    exact ⟨none, 0, [], rfl, by simp, ⟨by simp, fun h => absurd h (by simp)⟩, by simp⟩
  · simp at hcs
    subst hcs
    simp only [maxLen] at hcap
    simp only [if_true] at hm
    have hlm : l ≤ m := by omega
    have key : ∀ i, i < l → ∃ r, FldOk enc P w fs r ∧ ∀ j, j < fs.size → w.cell? (x.add (i * fs.size + j)) = r[j]? := by
      intro i hi
      obtain ⟨cs, hc, ht2⟩ := hel i (by omega)
      obtain ⟨_, hcl, hcell⟩ := World.cells?_some hc
      obtain ⟨xs, f3, _, _, _, hxl, hfl⟩ := DataW.trod_struct he ht2
      refine ⟨cs, ⟨by omega, f3, fun j f v hj hv => ?_⟩, fun j hj => ?_⟩
      · obtain ⟨ho, h1⟩ := hone_of hone j f hj
        have hr := hfl j f hj
        rw [ho, h1] at hr
        obtain ⟨hjc, rfl⟩ := List.getElem?_eq_some_iff.1 hv
        rw [List.drop_eq_getElem_cons hjc] at hr
        simp only [List.take_succ_cons, List.take_zero] at hr
        have hjf : j < fs.size := (Array.getElem?_eq_some_iff.1 hj).1
        rw [List.getElem?_eq_getElem (show j < xs.length by omega)] at hr
        exact ⟨_, hr⟩
      · have hcj := hcell j (by omega)
        rw [hC, Go.Deep.add_add] at hcj
        exact hcj
    obtain ⟨rows, hlen, hrows⟩ := choose_rel (R := fun i r => FldOk enc P w fs r ∧ ∀ j, j < fs.size → w.cell? (x.add (i * fs.size + j)) = r[j]?) (List.range l) (fun i hi => key i (List.mem_range.1 hi))
    rw [List.length_range] at hlen
    have hat : ∀ i (hi : i < rows.length), FldOk enc P w fs rows[i] ∧ ∀ j, j < fs.size → w.cell? (x.add (i * fs.size + j)) = rows[i][j]? :=
      fun i hi => hrows i i rows[i] (List.getElem?_range (by omega)) (List.getElem?_eq_getElem hi)
    have hok : ∀ r ∈ rows, FldOk enc P w fs r := by
      intro r hr
      obtain ⟨i, hi, rfl⟩ := List.getElem_of_mem hr
      exact (hat i hi).1
    refine ⟨some x, c, rows, by rw [hlen], by omega, ⟨fun r hr => (hok r hr).1, fun hn => ?_⟩, hok⟩
    obtain ⟨⟨hl0, _⟩, h0⟩ := hat 0 hn
    have hv0 := h0 0 hpos
    rw [List.getElem?_eq_getElem (show 0 < rows[0].length by omega)] at hv0
    obtain ⟨b, off, spot⟩ := x
    have hs : spot = none := by
      have := World.cell?_spot hv0
      simpa [Addr.add] using this
    subst hs
    refine ⟨b, off, rfl, ?_, fun j hj d hd => ?_⟩
    · have := World.block_lt_of_cell? w _ hv0
      rw [add_at] at this
      exact this
    · have := (hat j hj).2 d hd
      rw [add_at, ← Nat.add_assoc] at this
      rw [this]
      simp [List.getD, List.getElem?_eq_getElem hj]
theorem opened_in {t : TypeId} {k : IntKind} {n : Nat} {v : Value} (ht : P.underlying t = some (.int k)) (h : ∃ y, DataW.trod enc P w 0 (fun _ => true) true n t [v] = some y) : ∃ z, v = .int k z ∧ (Lit.int k z).wf = true := by
  obtain ⟨y, hf⟩ := h
  obtain ⟨z, hz, _, hw⟩ := DataW.trod_int ht hf
  simp at hz
  exact ⟨z, hz, hw⟩
theorem opened_n8 {t : TypeId} {n : Nat} {v : Value} (ht : P.underlying t = some (.int .u8)) (h : ∃ y, DataW.trod enc P w 0 (fun _ => true) true n t [v] = some y) : ∃ x : Nat, v = .int .u8 (x : Int) ∧ x < 256 := by
  obtain ⟨z, rfl, hw⟩ := opened_in ht h
  have := bounds_u8 hw
  exact ⟨z.toNat, by congr 1; omega, by omega⟩
theorem opened_n16 {t : TypeId} {n : Nat} {v : Value} (ht : P.underlying t = some (.int .u16)) (h : ∃ y, DataW.trod enc P w 0 (fun _ => true) true n t [v] = some y) : ∃ x : Nat, v = .int .u16 (x : Int) ∧ x < 65536 := by
  obtain ⟨z, rfl, hw⟩ := opened_in ht h
  have := bounds_u16 hw
  exact ⟨z.toNat, by congr 1; omega, by omega⟩
theorem opened_n32 {t : TypeId} {n : Nat} {v : Value} (ht : P.underlying t = some (.int .u32)) (h : ∃ y, DataW.trod enc P w 0 (fun _ => true) true n t [v] = some y) : ∃ x : Nat, v = .int .u32 (x : Int) ∧ x < 4294967296 := by
  obtain ⟨z, rfl, hw⟩ := opened_in ht h
  have := bounds_u32 hw
  exact ⟨z.toNat, by congr 1; omega, by omega⟩
theorem opened_n64 {t : TypeId} {n : Nat} {v : Value} (ht : P.underlying t = some (.int .u64)) (h : ∃ y, DataW.trod enc P w 0 (fun _ => true) true n t [v] = some y) : ∃ x : Nat, v = .int .u64 (x : Int) ∧ x < 18446744073709551616 := by
  obtain ⟨z, rfl, hw⟩ := opened_in ht h
  have := bounds_u64 hw
  exact ⟨z.toNat, by congr 1; omega, by omega⟩
theorem opened_txt {t : TypeId} {n : Nat} {v : Value} (ht : P.underlying t = some .string) (h : ∃ y, DataW.trod enc P w 0 (fun _ => true) true n t [v] = some y) : ∃ s : List UInt8, v = .string (txt s) := by
  obtain ⟨y, hf⟩ := h
  obtain ⟨s, hz, _, hw⟩ := DataW.trod_string ht hf
  simp at hz
  exact ⟨s.data.toList, by rw [hz]; rfl⟩
/-- A slice of numbers of four bytes, in one cell. -/
theorem opened_srcs {t e : TypeId} {n : Nat} {v : Value} (ht : P.underlying t = some (.slice e)) (he : P.underlying e = some (.int .u32)) (hC : P.cellsOf e = 1)
    (h : ∃ y, DataW.trod enc P w 0 (fun _ => true) true n t [v] = some y) : ∃ (A : Option Addr) (c : Nat) (L : List Nat), v = .slice A L.length c ∧ RdG 1 w A (L.map cSrc) ∧ ∀ x ∈ L, x < 4294967296 := by
  obtain ⟨y, hf⟩ := h
  rcases open_slice ht hf with ⟨h0, _⟩ | ⟨x, l, c, m, f2, D, Pl, hcs, _, hle, hcap, hm, _, hel⟩
  · simp at h0
    subst h0
    exact ⟨none, 0, [], rfl, ⟨by simp, fun h => absurd h (by simp)⟩, by simp⟩
  · simp at hcs
    subst hcs
    simp only [if_true] at hm
    have key : ∀ i, i < l → ∃ q : Nat, q < 4294967296 ∧ w.cell? (x.add i) = some (.int .u32 (q : Int)) := by
      intro i hi
      obtain ⟨cs, hc, ht2⟩ := hel i (by omega)
      obtain ⟨_, hcl, hcell⟩ := World.cells?_some hc
      obtain ⟨z, rfl, _, hw⟩ := DataW.trod_int he ht2
      have hb := bounds_u32 hw
      have h0 := hcell 0 (by rw [hC]; omega)
      rw [hC, Go.Deep.add_add] at h0
      simp only [Nat.mul_one, Nat.add_zero, List.getElem?_cons_zero] at h0
      exact ⟨z.toNat, by omega, by rw [h0]; congr 2; omega⟩
    obtain ⟨L, hlen, hL⟩ := choose_rel (R := fun i (q : Nat) => q < 4294967296 ∧ w.cell? (x.add i) = some (.int .u32 (q : Int))) (List.range l) (fun i hi => key i (List.mem_range.1 hi))
    rw [List.length_range] at hlen
    have hat : ∀ i (hi : i < L.length), L[i] < 4294967296 ∧ w.cell? (x.add i) = some (.int .u32 (L[i] : Int)) :=
      fun i hi => hL i i L[i] (List.getElem?_range (by omega)) (List.getElem?_eq_getElem hi)
    refine ⟨some x, c, L, by rw [hlen], ⟨fun r hr => by obtain ⟨q, _, rfl⟩ := List.mem_map.1 hr; rfl, fun hn => ?_⟩, fun q hq => ?_⟩
    · rw [List.length_map] at hn
      have hv0 := (hat 0 hn).2
      obtain ⟨b, off, spot⟩ := x
      have hs : spot = none := by
        have := World.cell?_spot hv0
        simpa [Addr.add] using this
      subst hs
      refine ⟨b, off, rfl, ?_, fun j hj d hd => ?_⟩
      · have := World.block_lt_of_cell? w _ hv0
        rw [add_at] at this
        exact this
      · rw [List.length_map] at hj
        obtain rfl : d = 0 := by omega
        have := (hat j hj).2
        rw [add_at] at this
        rw [Nat.mul_one, Nat.add_zero, this]
        simp [List.getD, List.getElem?_eq_getElem hj, cSrc]
    · obtain ⟨i, hi, rfl⟩ := List.getElem_of_mem hq
      exact (hat i hi).1
end
theorem list7 {r : List Value} (h : r.length = 7) : ∃ a b c d e f g, r = [a, b, c, d, e, f, g] := by
  match r, h with
  | [a, b, c, d, e, f, g], _ => exact ⟨a, b, c, d, e, f, g, rfl⟩
theorem list2 {r : List Value} (h : r.length = 2) : ∃ a b, r = [a, b] := by
  match r, h with
  | [a, b], _ => exact ⟨a, b, rfl⟩
theorem list13 {r : List Value} (h : r.length = 13) : ∃ a b c d e f g a2 b2 c2 d2 e2 f2, r = [a, b, c, d, e, f, g, a2, b2, c2, d2, e2, f2] := by
  match r, h with
  | [a, b, c, d, e, f, g, a2, b2, c2, d2, e2, f2], _ => exact ⟨a, b, c, d, e, f, g, a2, b2, c2, d2, e2, f2, rfl⟩
section
variable {H : Type} {enc : TypeId × Value → H} {w : World} {n : Nat}
theorem opened_reps {v : Value} (h : ∃ y, DataW.trod enc Tryd.prog w 0 (fun _ => true) true n 45 [v] = some y) : ∃ (A : Option Addr) (c : Nat) (L : List Rep), v = .slice A L.length c ∧ RdG 7 w A (L.map cRep) ∧ ∀ x ∈ L, x.fit := by
  obtain ⟨A, c, rows, rfl, _, hr, hok⟩ := opened_rows 7 rfl Tryd.underlying45 Tryd.underlying74 (by kernel_rfl) (by kernel_rfl) (by omega) h
  obtain ⟨L, rfl, hL⟩ := choose_rows (f := cRep) (P := Rep.fit) rows (fun r hr => by
    obtain ⟨hl, m, hf⟩ := hok r hr
    obtain ⟨a, b, c, d, e, f, g, rfl⟩ := list7 hl
    obtain ⟨a, rfl, h0⟩ := opened_n32 Tryd.underlying43 (hf 0 _ _ rfl rfl)
    obtain ⟨b, rfl, h1⟩ := opened_n8 Tryd.underlying5 (hf 1 _ _ rfl rfl)
    obtain ⟨c, rfl, h2⟩ := opened_in Tryd.underlying21 (hf 2 _ _ rfl rfl)
    obtain ⟨d, rfl, h3⟩ := opened_n32 Tryd.underlying43 (hf 3 _ _ rfl rfl)
    obtain ⟨e, rfl, h4⟩ := opened_n32 Tryd.underlying43 (hf 4 _ _ rfl rfl)
    obtain ⟨f, rfl, h5⟩ := opened_n32 Tryd.underlying43 (hf 5 _ _ rfl rfl)
    obtain ⟨g, rfl, h6⟩ := opened_n32 Tryd.underlying43 (hf 6 _ _ rfl rfl)
    have h2 := bounds_i32 h2
    exact ⟨⟨a, b, c, d, e, f, g⟩, rfl, h0, h1, ⟨h2.1, by have := h2.2; simp only; omega⟩, h3, h4, h5, h6⟩)
  exact ⟨A, c, L, by rw [List.length_map], hr, hL⟩
theorem opened_nams {v : Value} (h : ∃ y, DataW.trod enc Tryd.prog w 0 (fun _ => true) true n 46 [v] = some y) : ∃ (A : Option Addr) (c : Nat) (L : List (Nat × List UInt8)), v = .slice A L.length c ∧ RdG 2 w A (L.map cNam) ∧ ∀ x ∈ L, x.1 < 4294967296 := by
  obtain ⟨A, c, rows, rfl, _, hr, hok⟩ := opened_rows 2 rfl Tryd.underlying46 Tryd.underlying52 (by kernel_rfl) (by kernel_rfl) (by omega) h
  obtain ⟨L, rfl, hL⟩ := choose_rows (f := cNam) (P := fun x => x.1 < 4294967296) rows (fun r hr => by
    obtain ⟨hl, m, hf⟩ := hok r hr
    obtain ⟨a, b, rfl⟩ := list2 hl
    obtain ⟨a, rfl, h0⟩ := opened_n32 Tryd.underlying43 (hf 0 _ _ rfl rfl)
    obtain ⟨b, rfl⟩ := opened_txt Tryd.underlying9 (hf 1 _ _ rfl rfl)
    exact ⟨(a, b), rfl, h0⟩)
  exact ⟨A, c, L, by rw [List.length_map], hr, hL⟩
theorem opened_loss {v : Value} (h : ∃ y, DataW.trod enc Tryd.prog w 0 (fun _ => true) true n 35 [v] = some y) : ∃ (A : Option Addr) (c : Nat) (L : List (Nat × Nat)), v = .slice A L.length c ∧ RdG 2 w A (L.map cLos) ∧ ∀ x ∈ L, x.1 < 65536 ∧ x.2 < 65536 := by
  obtain ⟨A, c, rows, rfl, _, hr, hok⟩ := opened_rows 2 rfl Tryd.underlying35 Tryd.underlying41 (by kernel_rfl) (by kernel_rfl) (by omega) h
  obtain ⟨L, rfl, hL⟩ := choose_rows (f := cLos) (P := fun x => x.1 < 65536 ∧ x.2 < 65536) rows (fun r hr => by
    obtain ⟨hl, m, hf⟩ := hok r hr
    obtain ⟨a, b, rfl⟩ := list2 hl
    obtain ⟨a, rfl, h0⟩ := opened_n16 Tryd.underlying39 (hf 0 _ _ rfl rfl)
    obtain ⟨b, rfl, h1⟩ := opened_n16 Tryd.underlying39 (hf 1 _ _ rfl rfl)
    exact ⟨(a, b), rfl, h0, h1⟩)
  exact ⟨A, c, L, by rw [List.length_map], hr, hL⟩
theorem opened_firs {v : Value} (h : ∃ y, DataW.trod enc Tryd.prog w 0 (fun _ => true) true n 48 [v] = some y) : ∃ (A : Option Addr) (c : Nat) (L : List (Nat × Nat)), v = .slice A L.length c ∧ RdG 2 w A (L.map cFir) ∧ ∀ x ∈ L, x.1 < 4294967296 ∧ x.2 < 256 := by
  obtain ⟨A, c, rows, rfl, _, hr, hok⟩ := opened_rows 2 rfl Tryd.underlying48 Tryd.underlying76 (by kernel_rfl) (by kernel_rfl) (by omega) h
  obtain ⟨L, rfl, hL⟩ := choose_rows (f := cFir) (P := fun x => x.1 < 4294967296 ∧ x.2 < 256) rows (fun r hr => by
    obtain ⟨hl, m, hf⟩ := hok r hr
    obtain ⟨a, b, rfl⟩ := list2 hl
    obtain ⟨a, rfl, h0⟩ := opened_n32 Tryd.underlying43 (hf 0 _ _ rfl rfl)
    obtain ⟨b, rfl, h1⟩ := opened_n8 Tryd.underlying5 (hf 1 _ _ rfl rfl)
    exact ⟨(a, b), rfl, h0, h1⟩)
  exact ⟨A, c, L, by rw [List.length_map], hr, hL⟩
/-- Packets that come in. -/
theorem opened_ctrls {v : Value} (h : ∃ y, DataW.trod enc Tryd.prog w 0 (fun _ => true) true n 22 [v] = some y) : ∃ (A : Option Addr) (c : Nat) (l : List Ctl) (css : List (List Value)), v = .slice A l.length c ∧ css.length = l.length ∧ RdG 13 w A (css.map id) ∧ (∀ (i : Nat) (cs : List Value) (c : Ctl), css[i]? = some cs → l[i]? = some c → CtRd w cs c) ∧ (∀ c ∈ l, c.fit) ∧ l.length ≤ 9223372036854775807 := by
  obtain ⟨A, c, rows, rfl, hmx, hr, hok⟩ := opened_rows 13 rfl Tryd.underlying22 Tryd.underlying50 (by kernel_rfl) (by kernel_rfl) (by omega) h
  obtain ⟨l, hl, hR⟩ := choose_rel (R := fun cs (c : Ctl) => CtRd w cs c ∧ c.fit) rows (fun r hr => by
    obtain ⟨hl, m, hf⟩ := hok r hr
    obtain ⟨v0, v1, v2, v3, v4, v5, v6, v7, v8, v9, v10, v11, v12, rfl⟩ := list13 hl
    obtain ⟨x0, rfl, h0⟩ := opened_in Tryd.underlying3 (hf 0 _ _ rfl rfl)
    obtain ⟨x1, rfl, h1⟩ := opened_n32 Tryd.underlying43 (hf 1 _ _ rfl rfl)
    obtain ⟨x2, rfl, h2⟩ := opened_n32 Tryd.underlying43 (hf 2 _ _ rfl rfl)
    obtain ⟨x3, rfl, h3⟩ := opened_n64 Tryd.underlying44 (hf 3 _ _ rfl rfl)
    obtain ⟨x4, rfl, h4⟩ := opened_n32 Tryd.underlying43 (hf 4 _ _ rfl rfl)
    obtain ⟨x5, rfl, h5⟩ := opened_n32 Tryd.underlying43 (hf 5 _ _ rfl rfl)
    obtain ⟨x6, rfl, h6⟩ := opened_n32 Tryd.underlying43 (hf 6 _ _ rfl rfl)
    obtain ⟨A7, c7, L7, rfl, r7, h7⟩ := opened_reps (hf 7 _ _ rfl rfl)
    obtain ⟨A8, c8, L8, rfl, r8, h8⟩ := opened_nams (hf 8 _ _ rfl rfl)
    obtain ⟨A9, c9, L9, rfl, r9, h9⟩ := opened_srcs Tryd.underlying47 Tryd.underlying43 (by kernel_rfl) (hf 9 _ _ rfl rfl)
    obtain ⟨A10, c10, L10, rfl, r10, h10⟩ := opened_loss (hf 10 _ _ rfl rfl)
    obtain ⟨A11, c11, L11, rfl, r11, h11⟩ := opened_firs (hf 11 _ _ rfl rfl)
    obtain ⟨x12, rfl, h12⟩ := opened_n64 Tryd.underlying44 (hf 12 _ _ rfl rfl)
    exact ⟨⟨x0, x1, x2, x3, x4, x5, x6, L7, L8, L9, L10, L11, x12⟩, ⟨A7, c7, A8, c8, A9, c9, A10, c10, A11, c11, rfl, r7, r8, r9, r10, r11⟩, bounds_i64 h0, h1, h2, h3, h4, h5, h6, h7, h8, h9, h10, h11, h12⟩)
  refine ⟨A, c, l, rows, by rw [hl], hl.symm, by rw [List.map_id]; exact hr, fun i cs c hi hj => (hR i cs c hi hj).1, fun c hc => ?_, by omega⟩
  obtain ⟨i, hi, rfl⟩ := List.getElem_of_mem hc
  exact (hR i (rows[i]'(by omega)) l[i] (List.getElem?_eq_getElem _) (List.getElem?_eq_getElem hi)).2
end
end Go.Proofs.YtacaempcbdekaaaDoor
