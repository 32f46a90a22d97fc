/- Several texts in one: plain words and walks. No statement is proved here. -/
import Derived.Test.YtheefckohnaceaaGreatDoorProg
import Derived.Test.YtheefckohnaceaaGreatDoorZBytes
import Derived.Test.YtheefckohnaceaaGreatDoorZNums
import Derived.KernelRfl
import Derived.Lib.Hide
import Derived.Deep.MidRow
import Derived.Laws.CopyOwn
import Derived.Stop.BytesEq
import Derived.Maps.Range
import Derived.StillTailTactics
import Derived.Deep.RegionLaw
import Derived.WalkLawsBesides
import Derived.ArgAppend
import Derived.Maps.AppendAt
import Derived.Deep.AppendLies
namespace Go.Proofs.YtheefckohnaceaaGreatDoor
open Go.RowKit
set_option linter.unusedVariables false

theorem width_yes (n : Int) (w : World) (h1 : 1 ≤ n) (h2 : n ≤ 8) : Calls Tryz.prog 58 #[.int .i64 n] w fun e w' => e = .returned (.bool true) ∧ w = w' := by
 go_enter Tryz.func58, Tryz.ntmps58
 go_wp2
 go_ret
 exact ⟨rfl, rfl⟩
theorem num_yes (A : Option Addr) (nb c : Nat) (bs : List UInt8) (p m : Nat) (w : World) (hr : RdS w A nb c bs) (h1 : 1 ≤ m) (h2 : m ≤ 8) (h3 : p + m ≤ nb) :
 Calls Tryz.prog 56 #[.slice A nb c, .int .i64 p, .int .i64 m] w fun e w' => e = .returned (.tuple #[.int .u64 (numb ((bs.drop p).take m)), .bool true]) ∧ w = w' := by
 have hs := hr.small
 have hlen := hr.len
 obtain ⟨b, off, rfl, hlt, hc⟩ := hr.2.2.2.2 (by omega)
 go_enter Tryz.func56, Tryz.ntmps56
 go_wp2_with (go_at_call 58; refine (width_yes _ _ (by omega) (by omega)).mono ?_; rintro e w' ⟨rfl, rfl⟩)
 go_loop [8, 26] (fun x i => ∃ k : Nat, k ≤ m ∧ i = .int .i64 k ∧ x = .int .u64 (numb ((bs.drop p).take k))) (fun _ i => m - (intOf i).toNat)
 case atStart => exact ⟨0, by omega, rfl, by simp [numb]⟩
 case round =>
  obtain ⟨k, hk, rfl, rfl⟩ := hrel
  by_cases hlt : k < m
  · have hcell := hc (p + k) (by omega)
    have hst := num_step (bs.drop p) k (by simp; omega) (by omega)
    have hg : (bs.drop p).getD k 0 = bs.getD (p + k) 0 := by simp [List.getD]
    rw [hg] at hst
    have HS := Lib.hid hst
    clear hst hg
    obtain ⟨y, hy⟩ : ∃ y : UInt8, y = bs.getD (p + k) 0 := ⟨_, rfl⟩
    rw [← hy] at hcell HS
    have HY := Lib.hid hy
    clear hy
    go_wp2
    go_round
    case rel => exact ⟨k + 1, by omega, by go_num, by rw [HS.out]⟩
    case measure => simp [intOf]; omega
  · have hkm : k = m := by omega
    subst hkm
    go_wp2
    go_ret2
    exact ⟨rfl, rfl⟩

theorem u8_info : (Tryz.prog.info? 5).map (fun i => (i.zero, i.size, i.bytes)) = some (some (.int .u8 0), 1, 1) := by kernel_rfl

theorem ext_any (A : Option Addr) (nb c : Nat) (bs : List UInt8) (m : Nat) (w : World) (hr : RdS w A nb c bs) (h : nb + m ≤ 140737488355328) :
 Calls Tryz.prog 59 #[.slice A nb c, .int .i64 m] w fun e w' => e = .returned (.slice (some ⟨w.heap.size, 0, none⟩) (nb + m) (nb + m)) ∧ Blk w' w.heap.size 5 (bs ++ List.replicate m 0) ∧ Below w.heap.size w w' := by
 have hl := hr.len
 have hmk := run_makeB (P := Tryz.prog) Tryz.underlying32 u8_info .i64 .i64 ((nb : Int) + m) ((nb : Int) + m) (nb + m) (by omega) (by omega) (by omega)
 go_enter Tryz.func59, Tryz.ntmps59
 go_wp2_with (with_reducible refine wpList_copy_rd _ rfl (.tmp 11) (.tmp 12) rfl Tryz.underlying32 u8_info w.heap.size (nb + m) (nb + m) (List.replicate (nb + m) 0) rfl (Blk.new w _ _) A nb c bs rfl (hr.below ((Below.refl _ _).alloc (Nat.le_refl _) _)) (Nat.le_add_right _ _) (by simp) w ((Below.refl _ _).alloc (Nat.le_refl _) _) ?_; intro w2 hB2 hb2)
 go_ret
 refine ⟨rfl, ?_, hb2⟩
 have e : (List.replicate (nb + m) (0 : UInt8)).drop nb = List.replicate m 0 := by simp
 rw [← e]
 exact hB2

theorem put_some (A : Option Addr) (nb c : Nat) (bs : List UInt8) (m x : Nat) (w : World) (hr : RdS w A nb c bs) (h1 : 1 ≤ m) (h2 : m ≤ 8) (hx : x < 18446744073709551616) (hs : nb ≤ 140737488355320) :
 Calls Tryz.prog 35 #[.slice A nb c, .int .i64 m, .int .u64 x] w fun e w' => e = .returned (.slice (some ⟨w.heap.size, 0, none⟩) (nb + m) (nb + m)) ∧ Blk w' w.heap.size 5 (bs ++ beb m x) ∧ Below w.heap.size w w' := by
 have hl := hr.len
 go_enter Tryz.func35, Tryz.ntmps35
 go_wp2_with (first
  | (go_at_call 58; refine (width_yes _ _ (by omega) (by omega)).mono ?_; rintro e w' ⟨rfl, rfl⟩)
  | (go_at_call 59; refine (ext_any A nb c bs m _ hr (by omega)).mono ?_; rintro e w1 ⟨rfl, hB, hb⟩))
 go_loopw [18] (fun i wr => ∃ k : Nat, k ≤ m ∧ i = .int .i64 k ∧ Blk wr w.heap.size 5 (fillB bs (beb m x) m k) ∧ Below w.heap.size w wr) (fun i _ => m - (intOf i).toNat)
 case atStart => exact ⟨0, by omega, rfl, by rw [fillB_zero _ _ _ (length_beb _ _)]; exact hB, hb⟩
 case round =>
  obtain ⟨k, hk, rfl, hBr, hbr⟩ := hrel
  by_cases hlt : k < m
  · have hlf : (fillB bs (beb m x) m k).length = nb + m := by rw [length_fillB _ _ _ _ (length_beb _ _), hl]
    have hcell := hBr.cell (j := nb + m - 1 - k) (by omega)
    have hfr := hBr.frozen (nb + m - 1 - k)
    have hst : Blk (wr.setCell ⟨w.heap.size, nb + m - 1 - k, none⟩ (.int .u8 ((x : Int) / 2 ^ (8 * k) % 256))) w.heap.size 5 (fillB bs (beb m x) m (k + 1)) := by
     rw [byte_of, ← fillB_step bs (beb m x) m k (length_beb _ _) hlt (UInt8.ofNat (x / 256 ^ k)) (by rw [beb_at _ _ _ (by omega)]; congr 3; omega), show bs.length + (m - 1 - k) = nb + m - 1 - k by omega]
     exact hBr.set_ _ _
    have hbs := hbr.setCell (p := ⟨w.heap.size, nb + m - 1 - k, none⟩) (Nat.le_refl _) (.int .u8 ((x : Int) / 2 ^ (8 * k) % 256))
    have HL := Lib.hid hlf
    clear hlf
    obtain ⟨y, hy⟩ : ∃ y : Value, y = (.int .u8 (((fillB bs (beb m x) m k).getD (nb + m - 1 - k) 0).toNat : Int)) := ⟨_, rfl⟩
    rw [← hy] at hcell
    clear hy
    go_wp2
    go_roundw
    case rel => exact ⟨k + 1, by omega, by go_num, hst, hbs⟩
    case measure => simp [intOf]; omega
  · have hkm : k = m := by omega
    subst hkm
    go_wp2
    go_ret
    exact ⟨rfl, by simpa [fillB_all] using hBr, hbr⟩

theorem byteAt_any (A : Option Addr) (nb c : Nat) (bs : List UInt8) (k : Nat) (w : World) (hr : RdS w A nb c bs) (hk : k ≤ 9223372036854775807) :
 Calls Tryz.prog 83 #[.slice A nb c, .int .i64 k] w fun e w' => e = .returned (.int .u8 ((bs.getD k 0).toNat : Int)) ∧ w = w' := by
 have hs := hr.small
 have hl := hr.len
 by_cases h : k < nb
 · obtain ⟨b, off, rfl, hlt, hc⟩ := hr.2.2.2.2 (by omega)
   have hcell := hc k h
   obtain ⟨y, hy⟩ : ∃ y : UInt8, y = bs.getD k 0 := ⟨_, rfl⟩
   rw [← hy] at hcell ⊢
   clear hy hl hc hr
   go_enter Tryz.func83, Tryz.ntmps83
   go_wp2
   go_ret
   exact ⟨rfl, rfl⟩
 · have hy : bs.getD k 0 = 0 := by simp [List.getD, show bs.length ≤ k by omega]
   rw [hy]
   clear hy hl
   go_enter Tryz.func83, Tryz.ntmps83
   go_wp2
   go_ret
   exact ⟨rfl, rfl⟩

theorem same_any (A : Option Addr) (na c : Nat) (xs : List UInt8) (A' : Option Addr) (nb c' : Nat) (bs : List UInt8) (w : World) (hr : RdS w A na c xs) (hr' : RdS w A' nb c' bs) (t : Bool) (ht : t = decide (xs = bs)) :
 Calls Tryz.prog 63 #[.slice A na c, .slice A' nb c'] w fun e w' => e = .returned (.bool t) ∧ w = w' := by
 have hs := hr.small
 have hs' := hr'.small
 have hl := hr.len
 have hl' := hr'.len
 have key : ∀ M : Nat, xs.length ≤ M ∧ bs.length ≤ M ∧ (M = xs.length ∨ M = bs.length) → _ := fun M h => diffs_end xs bs M h t ht
 rcases Nat.lt_or_ge na nb with hlt | hge
 · have hE := key nb ⟨by omega, by omega, .inr hl'.symm⟩
   have hne := hE.2 (by omega)
   subst hne
   clear key hE hl hl' ht
   go_enter Tryz.func63, Tryz.ntmps63
   go_wp2
   go_loop [5, 12] (fun d i => ∃ k : Nat, k ≤ nb ∧ i = .int .i64 k ∧ d = .int .u8 (diffs xs bs k)) (fun _ i => nb - (intOf i).toNat)
   case atStart => exact ⟨0, by omega, rfl, rfl⟩
   case round =>
    obtain ⟨k, hk, rfl, rfl⟩ := hrel
    by_cases hkb : k < nb
    · have HS := Lib.hid (diffs_step xs bs k)
      obtain ⟨y, hy⟩ : ∃ y : Int, y = ((xs.getD k 0).toNat : Int) := ⟨_, rfl⟩
      obtain ⟨z, hz⟩ : ∃ z : Int, z = ((bs.getD k 0).toNat : Int) := ⟨_, rfl⟩
      have H1 := byteAt_any A na c xs k w hr (by omega)
      have H2 := byteAt_any A' nb c' bs k w hr' (by omega)
      rw [← hy] at HS H1
      rw [← hz] at HS H2
      have HY := Lib.hid hy
      have HZ := Lib.hid hz
      clear hy hz
      have H1' := Lib.hid H1
      have H2' := Lib.hid H2
      clear H1 H2
      go_wp2_with (first
       | (go_at_call 83; ((with_reducible refine (Hid.out H1').mono ?_); rintro e w' ⟨rfl, rfl⟩))
       | (go_at_call 83; ((with_reducible refine (Hid.out H2').mono ?_); rintro e w' ⟨rfl, rfl⟩)))
      go_round
      case rel => exact ⟨k + 1, by omega, by go_num, by rw [HS.out]⟩
      case measure => simp [intOf]; omega
    · have hkm : k = nb := by omega
      subst hkm
      have hd2 : ((na : Int) == (k : Int)) = false := by simp; omega
      go_wp2
      all_goals (go_ret; exact ⟨rfl, rfl⟩)
 · have hE := key na ⟨by omega, by omega, .inl hl.symm⟩
   clear key ht
   go_enter Tryz.func63, Tryz.ntmps63
   go_wp2
   go_loop [5, 12] (fun d i => ∃ k : Nat, k ≤ na ∧ i = .int .i64 k ∧ d = .int .u8 (diffs xs bs k)) (fun _ i => na - (intOf i).toNat)
   case atStart => exact ⟨0, by omega, rfl, rfl⟩
   case round =>
    obtain ⟨k, hk, rfl, rfl⟩ := hrel
    by_cases hkb : k < na
    · have HS := Lib.hid (diffs_step xs bs k)
      obtain ⟨y, hy⟩ : ∃ y : Int, y = ((xs.getD k 0).toNat : Int) := ⟨_, rfl⟩
      obtain ⟨z, hz⟩ : ∃ z : Int, z = ((bs.getD k 0).toNat : Int) := ⟨_, rfl⟩
      have H1 := byteAt_any A na c xs k w hr (by omega)
      have H2 := byteAt_any A' nb c' bs k w hr' (by omega)
      rw [← hy] at HS H1
      rw [← hz] at HS H2
      clear hE hl hl'
      have HY := Lib.hid hy
      have HZ := Lib.hid hz
      clear hy hz
      have H1' := Lib.hid H1
      have H2' := Lib.hid H2
      clear H1 H2
      go_wp2_with (first
       | (go_at_call 83; ((with_reducible refine (Hid.out H1').mono ?_); rintro e w' ⟨rfl, rfl⟩))
       | (go_at_call 83; ((with_reducible refine (Hid.out H2').mono ?_); rintro e w' ⟨rfl, rfl⟩)))
      go_round
      case rel => exact ⟨k + 1, by omega, by go_num, by rw [HS.out]⟩
      case measure => simp [intOf]; omega
    · obtain rfl : k = na := by omega
      by_cases hnn : k = nb
      · have h0 := hE.1 (by omega)
        subst hnn
        clear hE hl hl'
        cases t
        · have hd : ((diffs xs bs k : Int) == 0) = false := by
           have : diffs xs bs k ≠ 0 := fun h => by simpa using h0.1 h
           simp; omega
          clear h0
          go_wp2
          go_ret
          exact ⟨rfl, rfl⟩
        · have hd : diffs xs bs k = 0 := h0.2 rfl
          clear h0
          go_wp2
          go_ret
          exact ⟨rfl, rfl⟩
      · have h0 := hE.2 (by omega)
        subst h0
        have hlt : nb < k := by omega
        have hd2 : ((k : Int) == (nb : Int)) = false := by simp; omega
        clear hE hl hl' hnn
        go_wp2
        all_goals (go_ret; exact ⟨rfl, rfl⟩)
end Go.Proofs.YtheefckohnaceaaGreatDoor

namespace Go.Proofs.YtheefckohnaceaaGreatDoor
open Go.RowKit

def BlkV (w : World) (g : Nat) (e : TypeId) (cs : List Value) : Prop := w.heap[g]? = some (.cells cs.toArray e (0, 0))
structure Only (g : Nat) (w w' : World) : Prop where
 os : w'.os = w.os
 tape : w'.tape = w.tape
 output : w'.output = w.output
 size : w'.heap.size = w.heap.size
 block : ∀ k, k ≠ g → w'.heap[k]? = w.heap[k]?
section
variable {w w' w'' : World} {g : Nat} {e : TypeId} {cs : List Value}
theorem Only.refl (g : Nat) (w : World) : Only g w w := ⟨rfl, rfl, rfl, rfl, fun _ _ => rfl⟩
theorem Only.trans (h : Only g w w') (k : Only g w' w'') : Only g w w'' := ⟨k.os.trans h.os, k.tape.trans h.tape, k.output.trans h.output, k.size.trans h.size, fun i hi => (k.block i hi).trans (h.block i hi)⟩
theorem Only.set (w : World) (g j : Nat) (v : Value) : Only g w (w.setCell ⟨g, j, none⟩ v) := ⟨rfl, rfl, rfl, by simp [World.setCell], fun k hk => Below.heap_setCell _ _ _ _ hk⟩
theorem Only.row (w : World) (g : Nat) (C : Array Value) : Only g w (w.setRow g C) := ⟨rfl, rfl, rfl, by simp, fun k hk => setRow_other w g k C hk⟩
theorem Only.below {B : Nat} (h : Only g w w') (hB : B ≤ g) : Below B w w' := ⟨h.os, h.tape, h.output, by rw [h.size]; exact Nat.le_refl _, fun k hk => h.block k (by omega)⟩
theorem Only.grown (h : Only g w w') : w.grownBy w' (some g) := ⟨h.os, h.tape, h.output, by rw [h.size]; exact Nat.le_refl _, fun k _ hk => h.block k (fun e => hk (by rw [e]))⟩
theorem grown_of_below (h : Below w.heap.size w w') (row : Option Nat) : w.grownBy w' row := ⟨h.os, h.tape, h.output, h.size, fun k hk _ => h.block k hk⟩
theorem below_of_grown {row : Option Nat} {B : Nat} (h : w.grownBy w' row) (hB : B ≤ w.heap.size) (hr : ∀ k, row = some k → B ≤ k) : Below B w w' := (Below.refl B w).grown h hB hr

theorem BlkV.lt (h : BlkV w g e cs) : g < w.heap.size := (Array.getElem?_eq_some_iff.1 h).1
theorem BlkV.cell (h : BlkV w g e cs) (j : Nat) : w.cell? ⟨g, j, none⟩ = cs[j]? := by
 rw [cell_of_row w g j _ e (0, 0) h]; simp
theorem BlkV.frozen (h : BlkV w g e cs) (j : Nat) : w.frozen? ⟨g, j, none⟩ = false := frozen_of_row w g j _ e h
theorem BlkV.drew (h : BlkV w g e cs) : BlkV w.drew g e cs := h
theorem BlkV.alloc (h : BlkV w g e cs) (o : Obj) : BlkV (w.alloc o) g e cs := (Below.heap_alloc w o g h.lt).trans h
theorem BlkV.set_ (h : BlkV w g e cs) (j : Nat) (v : Value) : BlkV (w.setCell ⟨g, j, none⟩ v) g e (cs.set j v) := by
 have := heap_setCell_same w g j cs.toArray e v h
 unfold BlkV
 rw [this]
 simp
theorem BlkV.far (h : BlkV w g e cs) {p : Addr} (hp : g ≠ p.block) (u : Value) : BlkV (w.setCell p u) g e cs := (Below.heap_setCell w p u g hp).trans h
theorem BlkV.below {B : Nat} (h : BlkV w g e cs) (hb : Below B w w') (hg : g < B) : BlkV w' g e cs := (hb.block g hg).trans h
theorem BlkV.grown {row : Option Nat} (h : BlkV w g e cs) (hb : w.grownBy w' row) (hg : some g ≠ row) : BlkV w' g e cs := (hb.block g h.lt hg).trans h
theorem BlkV.only {k : Nat} (h : BlkV w g e cs) (hb : Only k w w') (hg : g ≠ k) : BlkV w' g e cs := (hb.block g hg).trans h
theorem BlkV.new_at (w : World) (g : Nat) (e : TypeId) (cs : List Value) (C : Array Value) (hg : w.heap.size = g) (hC : C = cs.toArray) : BlkV (w.alloc (.cells C e)) g e cs := by
 subst hg; subst hC; exact heap_alloc_new w _
theorem BlkV.new (w : World) (e : TypeId) (cs : List Value) : BlkV (w.alloc (.cells cs.toArray e)) w.heap.size e cs := heap_alloc_new w _
theorem BlkV.range (h : BlkV w g e cs) (j : Nat) (ds : List Value) (hd : ∀ i, i < ds.length → cs[j + i]? = ds[i]?) : w.rangeAt g j ds := fun i v hv => by
 rw [h.cell, hd i (List.getElem?_eq_some_iff.1 hv).1]; exact hv
theorem BlkV.there (h : BlkV w g e cs) (j n : Nat) (hn : j + n ≤ cs.length) : w.there g j n := fun i hi => by
 rw [h.cell, h.frozen]
 exact ⟨by rw [List.getElem?_eq_getElem (by omega)]; rfl, rfl⟩
theorem BlkV.row (h : BlkV w g e cs) (ds : List Value) : BlkV (w.setRow g ds.toArray) g e ds := setRow_heap w g _ _ _ _ h
theorem Blk.v {bs : List UInt8} (h : Blk w g e bs) : BlkV w g e (cells bs) := h
theorem Blk.new_at (w : World) (g : Nat) (e : TypeId) (bs : List UInt8) (C : Array Value) (hg : w.heap.size = g) (hC : C = (cells bs).toArray) : Blk (w.alloc (.cells C e)) g e bs := by
 subst hg; subst hC; exact Blk.new w e bs

theorem splice_cons {α : Type} (L : List α) (o : Nat) (v : α) (r : List α) (h : o < L.length) : splice (L.set o v) (o + 1) r = splice L o (v :: r) := by
 unfold splice
 have e1 : (L.set o v).take (o + 1) = L.take o ++ [v] := by
  rw [List.take_succ_eq_append_getElem (by simpa using h), List.take_set, List.set_eq_of_length_le (by simp; omega)]
  simp
 have e2 : (L.set o v).drop (o + 1 + r.length) = L.drop (o + (v :: r).length) := by
  rw [List.drop_set_of_lt (by omega), List.length_cons]
  congr 1
  omega
 rw [e1, e2]
 simp
theorem set_cells (g : Nat) : ∀ (vs : List Value) (o : Nat) (w : World) (cs : List Value), BlkV w g e cs → o + vs.length ≤ cs.length → BlkV (w.setCells g o vs) g e (splice cs o vs) ∧ Only g w (w.setCells g o vs)
 | [], o, w, cs, h, _ => by
   refine ⟨?_, Only.refl _ _⟩
   have : splice cs o ([] : List Value) = cs := by simp [splice]
   rw [this]; exact h
 | v :: r, o, w, cs, h, hl => by
   have h1 := set_cells g r (o + 1) (w.setCell ⟨g, o, none⟩ v) (cs.set o v) (h.set_ o v) (by simp at hl ⊢; omega)
   rw [splice_cons cs o v r (by simp at hl; omega)] at h1
   exact ⟨h1.1, (Only.set w g o v).trans h1.2⟩
end

def RowTy (P : Program) (ty : TypeId) (n : Nat) : Prop := ∃ d, P.underlying ty = some d ∧ d.isRow = true ∧ (P.info? ty).map (·.size) = some n

section
variable {P : Program} {w : World} {ops : Array Oper} {rest : List Oper} {op : Oper} {a : Act} {Q : Exit → Act → World → Prop}
theorem wpList_ld (hgd : op.guard = none) (ty : TypeId) (x : Operand) (ho : op.op = .load ty x) (b o : Nat) (hx : a.eval x = .pointer (some ⟨b, o, none⟩)) (cs : List Value) (hc : w.rangeAt b o cs) (hT : RowTy P ty cs.length)
 (h : wpList P ops Q rest (a.put op.dst (.agg cs.toArray)) w) : wpList P ops Q (op :: rest) a w := by
 obtain ⟨d, h1, h2, h3⟩ := hT
 exact wpList_load_mid hgd ty x ho b o hx cs d hc h1 h2 h3 h
theorem wpList_st (hgd : op.guard = none) (ty : TypeId) (x y : Operand) (ho : op.op = .store ty x y) (g o : Nat) (ds : List Value) (hx : a.eval x = .pointer (some ⟨g, o, none⟩)) (hy : a.eval y = .agg ds.toArray)
 (e : TypeId) (cs : List Value) (hg : BlkV w g e cs) (hfit : o + ds.length ≤ cs.length) (hT : RowTy P ty ds.length) (h1 : ∀ v ∈ ds, v.oneCell' = true)
 (h : ∀ w', BlkV w' g e (splice cs o ds) → Only g w w' → wpList P ops Q rest (a.put op.dst undef) w') : wpList P ops Q (op :: rest) a w := by
 obtain ⟨d, _, _, h3⟩ := hT
 have hh := set_cells g ds o w cs hg hfit
 refine wpList_store_mid hgd ty x y ho g o ds.toArray hx hy (by simpa using hg.there o ds.length hfit) (by simpa using h3) (all_oneCell_toArray h1) ?_
 exact h _ hh.1 hh.2
theorem wpList_cp (hgd : op.guard = none) (d s : Operand) {t e : TypeId} (ho : op.op = .call { callee := .builtin .copy, args := #[d, s], argTypes := #[t, t] }) (ht : P.underlying t = some (.slice e)) (hi : (P.info? e).map (fun i => (i.zero, i.size, i.bytes)) = some (some (.int .u8 0), 1, 1))
 (g o n c : Nat) (tb : TypeId) (cs : List Value) (hd : a.eval d = .slice (some ⟨g, o, none⟩) n c) (hg : BlkV w g tb cs) (A : Option Addr) (m cm : Nat) (news : List UInt8) (hs : a.eval s = .slice A m cm) (hr : RdS w A m cm news)
 (hn : o + n ≤ cs.length) (k : Nat) (hk : k = min m n) (hpos : 0 < k)
 (h : ∀ w', BlkV w' g tb (splice cs o (cells (news.take k))) → Only g w w' → wpList P ops Q rest (a.put op.dst (.int .i64 (k : Int))) w') : wpList P ops Q (op :: rest) a w := by
 obtain ⟨i, hi, _, hs1, _⟩ := info_parts hi
 have hl := hr.len
 obtain ⟨b, off, rfl, _, hc⟩ := hr.2.2.2.2 (by omega)
 have hlen : (cells (news.take k)).length = k := by rw [length_cells, List.length_take]; omega
 have := wpList_copy_own (P := P) (w := w) (ops := ops) (rest := rest) (o := op) (a := a) (Q := Q) hgd d s t t ho e ht (by rw [hi]; simp [hs1]) g o n c ⟨b, off, none⟩ m cm hd hs cs.toArray tb hg (cells (news.take k))
  (by rw [hlen, hk]) (fun j v hv => by
    have hj : j < k := by
     have := (List.getElem?_eq_some_iff.1 hv).1
     omega
    rw [Addr.add_lit, hc j (by omega)]
    rw [cells_at (by rw [List.length_take]; omega)] at hv
    rw [← hv]
    simp [List.getD, hj]) (by rw [hlen, List.size_toArray]; omega) (cells_one _)
 rw [hlen] at this
 refine this (h _ ?_ (Only.row _ _ _))
 have h2 := hg.row (splice cs o (cells (news.take k)))
 simpa [splice, hlen] using h2
end

theorem splice_all {α : Type} (L cs : List α) (h : L.length = cs.length) : splice L 0 cs = cs := by simp [splice, ← h]
theorem ret_row {P : Program} {fn : Func} {R : Ending → World → Prop} {a : Act} {w : World} {p : Tmp} {ty e : TypeId} {g : Nat} {cs : List Value} (h : fn.results = #[.cell p ty]) (hp : a.tmps.getD p undef = .pointer (some ⟨g, 0, none⟩))
 (hB : BlkV w g e cs) (hT : RowTy P ty cs.length) (hd : a.defers = []) (hR : R (.returned (.agg cs.toArray)) w) : bodyPost P fn R .ret a w := by
 obtain ⟨d, h1, h2, h3⟩ := hT
 refine bodyPost_ret (results_cell_row h a.tmps w g e cs.toArray (0, 0) d hp hB h1 ?_ (by simpa using h3)) hd hR
 cases d <;> simp_all

section
variable {P : Program} {md : Region.Mode} {ops : Array Oper} {Q : Exit → Act → World → Prop}
theorem any_one {i : Nat} {op : Oper} {fuel : Nat} {listed : Array Bool} {a : Act} {w : World} (hr : Region.ready md ops listed = [i]) (ho : ops[i]? = some op) (hgd : op.guard = none)
 (h : ∀ K : Act → World → Prop, (∀ a w, wpAny P md ops Q fuel (listed.setIfInBounds i true) a w → K a w) → op.wp P a w K Q) : wpAny P md ops Q (fuel + 1) listed a w :=
 wpAny_ready hr (by simp) (AllReady.cons ho (fun K hK => by rw [if_pos (by simp [Region.wanted, hgd])]; exact h K hK) AllReady.nil)
theorem any_two {i j : Nat} {op oq : Oper} {fuel : Nat} {listed : Array Bool} {a : Act} {w : World} (hr : Region.ready md ops listed = [i, j]) (ho : ops[i]? = some op) (hgd : op.guard = none) (hoq : ops[j]? = some oq) (hgq : oq.guard = none)
 (h : ∀ K : Act → World → Prop, (∀ a w, wpAny P md ops Q fuel (listed.setIfInBounds i true) a w → K a w) → op.wp P a w K Q)
 (h2 : ∀ K : Act → World → Prop, (∀ a w, wpAny P md ops Q fuel (listed.setIfInBounds j true) a w → K a w) → oq.wp P a w K Q) : wpAny P md ops Q (fuel + 1) listed a w :=
 wpAny_ready hr (by simp) (AllReady.cons ho (fun K hK => by rw [if_pos (by simp [Region.wanted, hgd])]; exact h K hK) (AllReady.cons hoq (fun K hK => by rw [if_pos (by simp [Region.wanted, hgq])]; exact h2 K hK) AllReady.nil))
theorem wp_ld {op : Oper} {a : Act} {w : World} {K : Act → World → Prop} (ty : TypeId) (x : Operand) (ho : op.op = .load ty x) (b o : Nat) (hx : a.eval x = .pointer (some ⟨b, o, none⟩)) (cs : List Value) (hc : w.rangeAt b o cs) (hT : RowTy P ty cs.length)
 (h : K (a.put op.dst (.agg cs.toArray)) w) : op.wp P a w K Q := by
 obtain ⟨d, h1, h2, h3⟩ := hT
 exact wp_load_mid ty x ho b o hx cs d hc h1 h2 h3 h
theorem wp_st {op : Oper} {a : Act} {w : World} {K : Act → World → Prop} (ty : TypeId) (x y : Operand) (ho : op.op = .store ty x y) (g o : Nat) (ds : List Value) (hx : a.eval x = .pointer (some ⟨g, o, none⟩)) (hy : a.eval y = .agg ds.toArray)
 (e : TypeId) (cs : List Value) (hg : BlkV w g e cs) (hfit : o + ds.length ≤ cs.length) (hT : RowTy P ty ds.length) (h1 : ∀ v ∈ ds, v.oneCell' = true)
 (h : ∀ w', BlkV w' g e (splice cs o ds) → Only g w w' → K (a.put op.dst undef) w') : op.wp P a w K Q := by
 obtain ⟨d, _, _, h3⟩ := hT
 have hh := set_cells g ds o w cs hg hfit
 exact wp_store_mid ty x y ho g o ds.toArray hx hy (by simpa using hg.there o ds.length hfit) (by simpa using h3) (all_oneCell_toArray h1) (h _ hh.1 hh.2)
end

def Off (A : Option Addr) (p : Nat) : Prop := ∀ ad, A = some ad → ad.block ≠ p
def OffN (A : Option Addr) (n p : Nat) : Prop := 0 < n → Off A p
theorem RdS.keep {w w' : World} {A : Option Addr} {n c : Nat} {bs : List UInt8} (h : RdS w A n c bs) {row : Option Nat} (hg : w.grownBy w' row) (ho : ∀ p, row = some p → OffN A n p) : RdS w' A n c bs := by
 refine ⟨h.1, h.2.1, h.2.2.1, h.2.2.2.1, fun hn => ?_⟩
 obtain ⟨b, off, hA, hlt, hc⟩ := h.2.2.2.2 hn
 refine ⟨b, off, hA, Nat.lt_of_lt_of_le hlt hg.size, fun j hj => ?_⟩
 exact (World.cell?_of_block (w := w) (a := ⟨b, off + j, none⟩) (hg.block b hlt (fun e => ho b e.symm hn _ hA rfl))).trans (hc j hj)
theorem RdS.off_lt {w : World} {A : Option Addr} {n c : Nat} {bs : List UInt8} (h : RdS w A n c bs) {p : Nat} (hp : w.heap.size ≤ p) : OffN A n p := by
 intro hn
 obtain ⟨b, off, rfl, hlt, _⟩ := h.2.2.2.2 hn
 intro ad hA
 injection hA with hA
 subst hA
 show b ≠ p
 omega

theorem add_lit (b o k : Nat) : (⟨b, o, none⟩ : Addr).add k = ⟨b, o + k, none⟩ := by unfold Addr.add; split <;> simp_all
theorem RdS.cut {w : World} {A : Option Addr} {n c : Nat} {bs : List UInt8} (h : RdS w A n c bs) (k : Nat) (hk : k ≤ n) :
 RdS w (if c = k then A else A.map (·.add (k * 1))) (n - k) (c - k) (bs.drop k) := by
 obtain ⟨h1, h2, h3, h4, h5⟩ := h
 refine ⟨by rw [List.length_drop, h1], by omega, by omega, fun h0 => ?_, fun hn => ?_⟩
 · split at h0
   · omega
   · have : A = none := by cases A <;> simp_all
     have := h4 this
     omega
 · obtain ⟨b, off, rfl, hlt, hc⟩ := h5 (by omega)
   rw [if_neg (by omega)]
   refine ⟨b, off + k, by simp [add_lit], hlt, fun j hj => ?_⟩
   have := hc (k + j) (by omega)
   rw [show off + k + j = off + (k + j) by omega, this]
   simp [List.getD]
theorem Off.cut {A : Option Addr} {p : Nat} (h : Off A p) (k c : Nat) : Off (if c = k then A else A.map (·.add (k * 1))) p := by
 split
 · exact h
 · intro ad hA
   cases A with
   | none => simp at hA
   | some x =>
     simp only [Option.map_some, Option.some.injEq] at hA
     subst hA
     have : (x.add (k * 1)).block = x.block := by unfold Addr.add; split <;> rfl
     rw [this]
     exact h x rfl
section
variable {P : Program} {w : World} {ops : Array Oper} {rest : List Oper} {op : Oper} {a : Act} {Q : Exit → Act → World → Prop}
theorem wpList_cut (hgd : op.guard = none) (t : TypeId) (x lo : Operand) (ho : op.op = .slice t x (some lo) none none) (ht : P.underlying t = some (.slice (P.elem t))) (hs : ∀ w, (sizeOf (P.elem t)).run P w = .ok 1 w)
 (A : Option Addr) (n c : Nat) (bs : List UInt8) (hx : a.eval x = .slice A n c) (k : Nat) (i : Int) (hlo : a.eval lo = .int .i64 i) (hik : i = (k : Int)) (hr : RdS w A n c bs) (hk : k ≤ n)
 (h : ∀ A2, RdS w A2 (n - k) (c - k) (bs.drop k) → (∀ p, Off A p → Off A2 p) → wpList P ops Q rest (a.put op.dst (.slice A2 (n - k) (c - k))) w) : wpList P ops Q (op :: rest) a w := by
 subst hik
 refine wpList_plain hgd fun K hK => ?_
 unfold Oper.wp execOp
 simp only [ho, hx, Option.map_some, Option.map_none, hlo, run_sliceAt_slice _ _ _ _ _ _ ht, Sem.run_bind, run_slice_l w t A n c ht .i64 (k : Int) (by omega) (by omega), hs, Result.andThen_ok, Sem.run_pure, sliced, Int.toNat_natCast]
 exact hK _ _ (h _ (hr.cut k hk) (fun p hp => hp.cut k c))
theorem wpList_acut (hgd : op.guard = none) (t : TypeId) (x lo : Operand) (ho : op.op = .slice t x (some lo) none none) (ht : P.underlying t = some (.array (P.arrayLen t) (P.elem t))) (hs : ∀ w, (sizeOf (P.elem t)).run P w = .ok 1 w)
 (N : Nat) (hN : P.arrayLen t = N) (g o : Nat) (hx : a.eval x = .pointer (some ⟨g, o, none⟩)) (k : Nat) (i : Int) (hlo : a.eval lo = .int .i64 i) (hik : i = (k : Int)) (hk : k < N)
 (h : wpList P ops Q rest (a.put op.dst (.slice (some ⟨g, o + k, none⟩) (N - k) (N - k))) w) : wpList P ops Q (op :: rest) a w := by
 subst hik
 refine wpList_plain hgd fun K hK => ?_
 unfold Oper.wp execOp
 simp only [ho, hx, Option.map_some, Option.map_none, hlo, Sem.run_bind, run_sliceAt_array_l w t ⟨g, o, none⟩ ht .i64 (k : Int) (by omega) (by omega), hs, Result.andThen_ok, Sem.run_pure, slicedAt, Int.toNat_natCast, hN, add_lit, Nat.mul_one]
 rw [if_neg (by omega)]
 exact hK _ _ h
end

theorem Blk.only {w w' : World} {g k : Nat} {e : TypeId} {bs : List UInt8} (h : Blk w g e bs) (hb : Only k w w') (hg : g ≠ k) : Blk w' g e bs := (hb.block g hg).trans h
theorem Only.drew {g : Nat} {w w' : World} (h : Only g w w') : Only g w w'.drew := ⟨h.os, h.tape, h.output, h.size, h.block⟩
end Go.Proofs.YtheefckohnaceaaGreatDoor

namespace Go.Proofs.YtheefckohnaceaaGreatDoor
open Go.RowKit
set_option linter.unusedVariables false

theorem undB : Tryz.prog.underlying 32 = some (.slice (Tryz.prog.elem 32)) := by kernel_rfl
theorem szB : ∀ w, (sizeOf (Tryz.prog.elem 32)).run Tryz.prog w = .ok 1 w := fun w => by kernel_rfl
theorem RdS.headR {w : World} {A : Option Addr} {n c : Nat} {bs : List UInt8} (h : RdS w A n c bs) (m : Nat) (hm : m ≤ n) : RdS w A m c (bs.take m) := by
 obtain ⟨h1, h2, h3, h4, h5⟩ := h
 refine ⟨by rw [List.length_take]; omega, by omega, h3, h4, fun hn => ?_⟩
 obtain ⟨b, off, hA, hlt, hc⟩ := h5 (by omega)
 refine ⟨b, off, hA, hlt, fun j hj => ?_⟩
 rw [hc j (by omega)]
 simp [List.getD, hj]
theorem RdS.only {w w' : World} {A : Option Addr} {n c g : Nat} {bs : List UInt8} (h : RdS w A n c bs) (ho : Only g w w') (hg : OffN A n g) : RdS w' A n c bs :=
 h.keep ho.grown fun p hp => by injection hp with hp; subst hp; exact hg
def LoN (A : Option Addr) (n g : Nat) : Prop := 0 < n → ∀ ad, A = some ad → ad.block < g
theorem LoN.off {A : Option Addr} {n g p : Nat} (h : LoN A n g) (hp : g ≤ p) : OffN A n p := fun h0 ad hA e => by have := h h0 ad hA; omega
theorem LoN.of_off {A A2 : Option Addr} {n m g : Nat} (h : LoN A n g) (h2 : ∀ p, Off A p → Off A2 p) (hm : m ≤ n) : LoN A2 m g := by
 intro h0 ad hA
 refine Nat.lt_of_not_le fun hle => ?_
 exact h2 ad.block (fun ad' hA' e => by have := h (by omega) ad' hA'; omega) ad hA rfl
theorem run_lo (A : Option Addr) (n c lo : Nat) (li : Int) (hli : li = lo) (h : lo ≤ n) (hle : n ≤ c) (hm : c ≤ maxLen) :
 ∃ A2, (∀ wx, (Instr.sliceAt 32 (.slice A n c) (some (.int .i64 li)) none none).run Tryz.prog wx = .ok (.slice A2 (n - lo) (c - lo)) wx) ∧ (∀ wx, (Instr.slice 32 (.slice A n c) (some (.int .i64 li)) none none).run Tryz.prog wx = .ok (.slice A2 (n - lo) (c - lo)) wx) ∧ ∀ w bs, RdS w A n c bs → RdS w A2 (n - lo) (c - lo) (bs.drop lo) := by
 subst hli
 have e : ∀ wx, (Instr.slice 32 (.slice A n c) (some (.int .i64 (lo : Int))) none none).run Tryz.prog wx = .ok (.slice (if c = lo then A else A.map (·.add (lo * 1))) (n - lo) (c - lo)) wx := fun wx => by
  rw [run_slice_l wx 32 A n c undB .i64 (lo : Int) (by omega) (by omega)]
  simp only [szB, Result.andThen_ok, sliced, Int.toNat_natCast]
 refine ⟨_, fun wx => ?_, e, fun w bs hr => hr.cut lo (by omega)⟩
 rw [run_sliceAt_slice _ _ _ _ _ _ undB]
 exact e wx
theorem RdS.lo {w : World} {A : Option Addr} {n c : Nat} {bs : List UInt8} (h : RdS w A n c bs) {g : Nat} (hg : w.heap.size ≤ g) : LoN A n g := by
 intro h0 ad hA
 obtain ⟨b, off, hA', hlt, _⟩ := h.2.2.2.2 h0
 rw [hA] at hA'
 injection hA' with hA'
 subst hA'
 show b < g
 omega
end Go.Proofs.YtheefckohnaceaaGreatDoor

namespace Go.Proofs.YtheefckohnaceaaGreatDoor
open Go.RowKit

section
variable {P : Program} (w : World)
theorem run_app1 (base : Nat) {t e : TypeId} (ty : TypeId) {z : Value} {by8 : Nat} (ht : P.underlying t = some (.slice e)) (hi : (P.info? e).map (fun i => (i.zero, i.size, i.bytes)) = some (some z, 1, by8)) (hz1 : z.cells.size = 1) (h8 : by8 ≤ 64)
 (v : Value) (n : Nat) (xs : List Value) (hown : w.ownsRow base e 1 v n xs) (ad : Addr) (c : Nat) (x : Value) (hx : w.cell? (ad.add 0) = some x) (h1 : x.oneCell' = true) (hn : n ≤ 1000000) (hbase : base ≤ w.heap.size) :
 ∃ v' w', (Builtin.append_ #[t, t] ty #[v, .slice (some ad) 1 c]).run P w = .ok v' w' ∧ w'.ownsRow base e 1 v' (n + 1) (xs ++ [x]) ∧ w.grownBy w' v.ownBlock ∧
   (v'.ownBlock = v.ownBlock ∨ v'.ownBlock = some w.heap.size) ∧ (∀ g, v.ownBlock = some g → ∀ j, j < n → w'.cell? ⟨g, j, none⟩ = w.cell? ⟨g, j, none⟩) := by
 obtain ⟨i, hi, hz, hs, hby⟩ := info_parts hi
 have hnews : ∀ j u, [x][j]? = some u → w.cell? (ad.add j) = some u := by
  intro j u hj
  match j, hj with
  | 0, hj => simp at hj; subst hj; exact hx
 have hone : ∀ u ∈ [x], u.oneCell' = true := by
  intro u hu
  simp only [List.mem_singleton] at hu
  subst hu
  exact h1
 have hm : n + 1 ≤ maxLen := by simp only [maxLen]; omega
 have hb : (n + 1) * by8 ≤ 140737488355328 := by
  have : (n + 1) * by8 ≤ 1000001 * 64 := Nat.mul_le_mul (by omega) h8
  omega
 obtain ⟨v', w', hrun, h2, h3, _, h5⟩ := run_append_own_at (P := P) w base t ty e i z 1 by8 ht hi hz hs hby hz1 (by omega) v n xs hown ad 1 c [x] rfl hnews hone hm hb hbase
 refine ⟨v', w', hrun, h2, h3, h5, ?_⟩
 intro g hg j hj
 have hold := hown.cells hg
 have hxl : xs.length = n := by simpa using hown.1
 obtain ⟨g', cap, hv, _, hlt⟩ := hown.form (by omega)
 subst hv
 have hgg : g' = g := by simpa [Value.ownBlock] using hg
 subst hgg
 have hj1 : w.cell? ⟨g', j, none⟩ = xs[j]? := hown.cellAt j (by omega)
 rcases h5 with h5 | h5
 · obtain ⟨g2, cap2, hv2, _, _⟩ := h2.form (by omega)
   subst hv2
   have hg2 : g2 = g' := by simpa [Value.ownBlock] using h5
   subst hg2
   rw [hj1, h2.cellAt j (by omega), List.getElem?_append_left (by omega)]
 · by_cases hroom : n + 1 ≤ cap
   · obtain ⟨cur, hgc, hcs⟩ : ∃ cur, w.heap[g']? = some (.cells cur e (0, 0)) ∧ cur.size = cap * 1 := by
      rcases hown.2 with ⟨h', _⟩ | ⟨g2, cap2, cur, h', _, hgc, _, _, hcs, _⟩
      · simp at h'
      · simp only [Value.slice.injEq, Option.some.injEq, Addr.mk.injEq, and_true, true_and] at h'
        obtain ⟨rfl, rfl⟩ := h'
        exact ⟨cur, hgc, hcs⟩
     have hr2 := run_append_room (P := P) w t ty e i ht hi g' n cap cur hgc ad 1 c [x] (by simp [hs]) hnews hone hroom (by simp [hs, hcs]; omega)
     rw [hrun] at hr2
     injection hr2 with e1 e2
     subst e1
     simp [Value.ownBlock] at h5
     omega
   · obtain ⟨v2, w2, hr2, _, hg2⟩ := run_append_arg_grows (P := P) w t ty e i z 1 by8 ht hi hz hs hby hz1 (by omega) ⟨g', 0, none⟩ n cap xs (by omega) hold ad 1 c [x] rfl hnews (by omega) hm hb
     rw [hrun] at hr2
     injection hr2 with e1 e2
     subst e2
     exact World.cell?_of_block (w := w) (a := ⟨g', j, none⟩) (hg2.block g' hlt (by simp))
theorem wp_app1 {o : Oper} {a : Act} {K : Act → World → Prop} {Q : Exit → Act → World → Prop} (s y : Operand) {t e : TypeId} {z : Value} {by8 : Nat}
 (ho : o.op = .call { callee := .builtin .append, args := #[s, y], argTypes := #[t, t] }) (ht : P.underlying t = some (.slice e)) (hi : (P.info? e).map (fun i => (i.zero, i.size, i.bytes)) = some (some z, 1, by8)) (hz1 : z.cells.size = 1) (h8 : by8 ≤ 64)
 (base : Nat) (v : Value) (n : Nat) (xs : List Value) (hs : a.eval s = v) (hown : w.ownsRow base e 1 v n xs) (ad : Addr) (c : Nat) (hy : a.eval y = .slice (some ad) 1 c) (x : Value) (hx : w.cell? (ad.add 0) = some x) (h1 : x.oneCell' = true) (hn : n ≤ 1000000) (hbase : base ≤ w.heap.size)
 (hK : ∀ v' w', w'.ownsRow base e 1 v' (n + 1) (xs ++ [x]) → w.grownBy w' v.ownBlock → (v'.ownBlock = v.ownBlock ∨ v'.ownBlock = some w.heap.size) → (∀ g, v.ownBlock = some g → ∀ j, j < n → w'.cell? ⟨g, j, none⟩ = w.cell? ⟨g, j, none⟩) → K (a.put o.dst v') w') : o.wp P a w K Q := by
 obtain ⟨v', w', hrun, h2, h3, h4, h5⟩ := run_app1 (P := P) w base o.type ht hi hz1 h8 v n xs hown ad c x hx h1 hn hbase
 unfold Oper.wp execOp
 simp only [ho, resolve, invoke, builtin, Sem.run_bind, Sem.run_pure, Result.andThen_ok, List.map_toArray, List.map_cons, List.map_nil, hs, hy, hrun]
 exact hK v' w' h2 h3 h4 h5
theorem wpList_app1 {ops : Array Oper} {rest : List Oper} {o : Oper} {a : Act} {Q : Exit → Act → World → Prop} (hgd : o.guard = none) (s y : Operand) {t e : TypeId} {z : Value} {by8 : Nat}
 (ho : o.op = .call { callee := .builtin .append, args := #[s, y], argTypes := #[t, t] }) (ht : P.underlying t = some (.slice e)) (hi : (P.info? e).map (fun i => (i.zero, i.size, i.bytes)) = some (some z, 1, by8)) (hz1 : z.cells.size = 1) (h8 : by8 ≤ 64)
 (base : Nat) (v : Value) (n : Nat) (xs : List Value) (hs : a.eval s = v) (hown : w.ownsRow base e 1 v n xs) (ad : Addr) (c : Nat) (hy : a.eval y = .slice (some ad) 1 c) (x : Value) (hx : w.cell? (ad.add 0) = some x) (h1 : x.oneCell' = true) (hn : n ≤ 1000000) (hbase : base ≤ w.heap.size)
 (hK : ∀ v' w', w'.ownsRow base e 1 v' (n + 1) (xs ++ [x]) → w.grownBy w' v.ownBlock → (v'.ownBlock = v.ownBlock ∨ v'.ownBlock = some w.heap.size) → (∀ g, v.ownBlock = some g → ∀ j, j < n → w'.cell? ⟨g, j, none⟩ = w.cell? ⟨g, j, none⟩) → wpList P ops Q rest (a.put o.dst v') w') : wpList P ops Q (o :: rest) a w :=
 wpList_plain hgd fun _ hK2 => wp_app1 w s y ho ht hi hz1 h8 base v n xs hs hown ad c hy x hx h1 hn hbase fun v' w' h2 h3 h4 h5 => hK2 _ _ (hK v' w' h2 h3 h4 h5)
theorem step_app1 {ops : Array Oper} {o : Oper} {a : Act} {K : Act → World → Prop} {Q : Exit → Act → World → Prop} {E : Prop} (hgd : o.guard = none) (s y : Operand) {t e : TypeId} {z : Value} {by8 : Nat}
 (ho : o.op = .call { callee := .builtin .append, args := #[s, y], argTypes := #[t, t] }) (ht : P.underlying t = some (.slice e)) (hi : (P.info? e).map (fun i => (i.zero, i.size, i.bytes)) = some (some z, 1, by8)) (hz1 : z.cells.size = 1) (h8 : by8 ≤ 64)
 (base : Nat) (v : Value) (n : Nat) (xs : List Value) (hs : a.eval s = v) (hown : w.ownsRow base e 1 v n xs) (ad : Addr) (c : Nat) (hy : a.eval y = .slice (some ad) 1 c) (x : Value) (hx : w.cell? (ad.add 0) = some x) (h1 : x.oneCell' = true) (hn : n ≤ 1000000) (hbase : base ≤ w.heap.size)
 (hK : ∀ v' w', w'.ownsRow base e 1 v' (n + 1) (xs ++ [x]) → w.grownBy w' v.ownBlock → (v'.ownBlock = v.ownBlock ∨ v'.ownBlock = some w.heap.size) → (∀ g, v.ownBlock = some g → ∀ j, j < n → w'.cell? ⟨g, j, none⟩ = w.cell? ⟨g, j, none⟩) → K (a.put o.dst v') w') :
 if Region.wanted o (yielded ops a.tmps) = true then Oper.wp P o a w K Q else E := by
 rw [if_pos (by simp [Region.wanted, hgd])]
 exact wp_app1 w s y ho ht hi hz1 h8 base v n xs hs hown ad c hy x hx h1 hn hbase hK
end
def PartsRd (w : World) (A : Option Addr) (k : Nat) (ps : List (List UInt8)) : Prop :=
 ps.length = k ∧ (0 < k → ∃ b off, A = some ⟨b, off, none⟩ ∧ b < w.heap.size ∧ ∀ j, j < k → ∃ Aj nj cj, w.cell? ⟨b, off + j, none⟩ = some (.slice Aj nj cj) ∧ RdS w Aj nj cj (ps.getD j []))
theorem PartsRd.below {w w' : World} {A : Option Addr} {k : Nat} {ps : List (List UInt8)} (h : PartsRd w A k ps) (hb : Below w.heap.size w w') : PartsRd w' A k ps := by
 refine ⟨h.1, fun hk => ?_⟩
 obtain ⟨b, off, hA, hlt, hc⟩ := h.2 hk
 refine ⟨b, off, hA, Nat.lt_of_lt_of_le hlt hb.size, fun j hj => ?_⟩
 obtain ⟨Aj, nj, cj, h1, h2⟩ := hc j hj
 exact ⟨Aj, nj, cj, (hb.cell (p := ⟨b, off + j, none⟩) hlt).trans h1, h2.below hb⟩
end Go.Proofs.YtheefckohnaceaaGreatDoor

namespace Go.Proofs.YtheefckohnaceaaGreatDoor
open Go.RowKit
set_option linter.unusedVariables false


def srcs (bs : List UInt8) (n : Nat) : List Nat := (List.range n).map fun i => numb ((bs.drop (4 * i)).take 4)
theorem own_mono {w : World} {base base' n : Nat} {e : TypeId} {v : Value} {xs : List Value} (h : w.ownsRow base e 1 v n xs) (hb : base' ≤ base) : w.ownsRow base' e 1 v n xs := by
 obtain ⟨h1, h2⟩ := h
 refine ⟨h1, ?_⟩
 rcases h2 with h2 | ⟨g, cap, cur, hv, hg, hr⟩
 · exact .inl h2
 · exact .inr ⟨g, cap, cur, hv, by omega, hr⟩
def bt (bs : List UInt8) (i : Nat) : Nat := (bs.getD i 0).toNat
def othN (bs : List UInt8) : Nat := bt bs 0 % 16
def at0 (bs : List UInt8) : Nat := 12 + 4 * othN bs
def sqN (bs : List UInt8) : Nat := numb ((bs.drop 2).take 2)
def soN (bs : List UInt8) : Nat := numb ((bs.drop 8).take 4)
structure Two (g p : Nat) (w w' : World) : Prop where
 os : w'.os = w.os
 tape : w'.tape = w.tape
 output : w'.output = w.output
 size : w.heap.size ≤ w'.heap.size
 block : ∀ k, k < w.heap.size → k ≠ g → k ≠ p → w'.heap[k]? = w.heap[k]?
section
variable {g p : Nat} {w w' w'' : World}
theorem Two.refl (g p : Nat) (w : World) : Two g p w w := ⟨rfl, rfl, rfl, Nat.le_refl _, fun _ _ _ _ => rfl⟩
theorem Two.trans (h : Two g p w w') (k : Two g p w' w'') : Two g p w w'' := ⟨k.os.trans h.os, k.tape.trans h.tape, k.output.trans h.output, Nat.le_trans h.size k.size, fun i hi h1 h2 => (k.block i (Nat.lt_of_lt_of_le hi h.size) h1 h2).trans (h.block i hi h1 h2)⟩
theorem Two.of_p (h : Only p w w') : Two g p w w' := ⟨h.os, h.tape, h.output, by rw [h.size]; exact Nat.le_refl _, fun k _ _ h2 => h.block k h2⟩
theorem Two.of_below (h : Below w.heap.size w w') : Two g p w w' := ⟨h.os, h.tape, h.output, h.size, fun k hk _ _ => h.block k hk⟩
theorem Two.alloc (w : World) (o : Obj) : Two g p w (w.alloc o) := Two.of_below ((Below.refl _ _).alloc (Nat.le_refl _) o)
theorem Two.set_ (w : World) (j : Nat) (v : Value) : Two g p w (w.setCell ⟨p, j, none⟩ v) := Two.of_p (Only.set w p j v)
theorem Two.grown (h : Two g p w w') (hp : w.heap.size ≤ p) : w.grownBy w' (some g) := ⟨h.os, h.tape, h.output, h.size, fun k hk h1 => h.block k hk (fun e => h1 (by rw [e])) (by omega)⟩
theorem Two.blk {r : Nat} {e : TypeId} {cs : List Value} (h : Two g p w w') (hB : BlkV w r e cs) (h1 : r ≠ g) (h2 : r ≠ p) : BlkV w' r e cs := (h.block r hB.lt h1 h2).trans hB
theorem Two.own {base n : Nat} {e : TypeId} {v : Value} {xs : List Value} (h : Two g p w w') (ho : w.ownsRow base e 1 v n xs) (h1 : g < base) (h2 : ∀ q, v.ownBlock = some q → q ≠ p) : w'.ownsRow base e 1 v n xs := by
 obtain ⟨hl, hr⟩ := ho
 refine ⟨hl, ?_⟩
 rcases hr with hr | ⟨q, cap, cur, hv, hg, hh, hrest⟩
 · exact .inl hr
 · exact .inr ⟨q, cap, cur, hv, hg, (h.block q (Array.getElem?_eq_some_iff.1 hh).1 (by omega) (h2 q (by rw [hv]; rfl))).trans hh, hrest⟩
end

structure Pkt where
 m : Bool
 ty : Nat
 sq : Nat
 st : Nat
 so : Nat
 ot : List Nat
 x : Bool
 pf : Nat
 xt : List UInt8
 pl : List UInt8
 pd : Nat
def exBR (bs : List UInt8) : Bool := bt bs 0 / 16 % 2 == 1
def wordsN (bs : List UInt8) : Nat := numb ((bs.drop (at0 bs + 2)).take 2)
def at1 (bs : List UInt8) : Nat := if exBR bs then at0 bs + 4 + 4 * wordsN bs else at0 bs
end Go.Proofs.YtheefckohnaceaaGreatDoor
