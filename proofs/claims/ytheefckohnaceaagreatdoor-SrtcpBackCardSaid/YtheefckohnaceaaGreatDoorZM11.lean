/- Several texts in one: plain words and walks. No statement is proved here. -/
import Derived.Test.YtheefckohnaceaaGreatDoorZM10
import Derived.StillTailTactics
import Derived.Test.YtheefckohnaceaaGreatDoorZM0
import Derived.LoopTactic
import Derived.Maps.OwnSet
namespace Go.Proofs.YtheefckohnaceaaGreatDoor
open Go.RowKit
set_option linter.unusedVariables false

theorem fresh_any (g : Nat) (L : List Int) (i : Int) (w : World) (hW : WinAt w g L) (hi : i ≤ 9223372036854775807) (ht : hiL L ≤ 9223372036854775807) :
 Calls Tryz.prog 37 #[.pointer (some ⟨g, 0, none⟩), .int .i64 i] w fun e w' => e = .returned (.bool (frL L i)) ∧ w = w' := by
 have hlow := hiL_low L
 have HH := Lib.hid (high_any g L w hW)
 by_cases h0 : i < 0
 · rw [fr_neg h0]
   clear hW hlow HH
   go_enter Tryz.func37, Tryz.ntmps37
   go_wp2
   go_ret
   exact ⟨rfl, rfl⟩
 have h0' : 0 ≤ i := by omega
 clear h0
 by_cases h1 : hiL L < i
 · rw [fr_above h0' h1]
   obtain ⟨H, hH⟩ : ∃ H, H = hiL L := ⟨_, rfl⟩
   rw [← hH] at h1 hlow ht HH
   clear hH hW
   go_enter Tryz.func37, Tryz.ntmps37
   go_wp2_with (go_at_call 60; ((with_reducible refine (Hid.out HH).mono ?_); rintro e w' ⟨rfl, rfl⟩))
   go_ret
   exact ⟨rfl, rfl⟩
 have h1' : i ≤ hiL L := by omega
 clear h1
 obtain ⟨x, p, hS, hB⟩ := hW
 have HT := Lib.hid (told_some g x p w hB)
 have hmf : ∀ (fn : Fn) (first cap : Array Value) (w : World), (Instr.makeFunc fn first cap).run Tryz.prog w = .ok (.func fn first cap) w := fun _ _ _ _ => rfl
 by_cases h2 : 64 ≤ hiL L - i
 · rw [fr_far h2]
   obtain ⟨H, hH⟩ : ∃ H, H = hiL L := ⟨_, rfl⟩
   rw [← hH] at h1' h2 hlow ht HH
   clear hH hS hB
   go_enter Tryz.func37, Tryz.ntmps37
   go_wp2_with (first
    | (go_at_call 60; ((with_reducible refine (Hid.out HH).mono ?_); rintro e w' ⟨rfl, rfl⟩))
    | (go_at_call 61; ((with_reducible refine (Hid.out HT).mono ?_); rintro e w' ⟨rfl, rfl⟩)))
   go_ret
   exact ⟨rfl, rfl⟩
 · obtain ⟨n, hn⟩ := Int.eq_ofNat_of_zero_le (show 0 ≤ hiL L - i by omega)
   have hb := hS.near h0' h1' n hn (by omega)
   obtain ⟨b, hbb⟩ : ∃ b, b = p.testBit n := ⟨_, rfl⟩
   have HA := Lib.hid (fun w => has_any p n b w hS.lt (by omega) hbb.symm)
   rw [hb, ← hbb]
   have h2' : (n : Int) < 64 := by omega
   obtain ⟨H, hH⟩ : ∃ H, H = hiL L := ⟨_, rfl⟩
   rw [← hH] at h1' h2 hlow ht HH hn
   clear hH hS hB hb hbb h2
   go_enter Tryz.func37, Tryz.ntmps37
   go_wp2_with (first
    | (go_at_call 60; ((with_reducible refine (Hid.out HH).mono ?_); rintro e w' ⟨rfl, rfl⟩))
    | (go_at_call 61; ((with_reducible refine (Hid.out HT).mono ?_); rintro e w' ⟨rfl, rfl⟩))
    | (go_at_call 62; ((with_reducible refine (Hid.out HA _).mono ?_); rintro e w' ⟨rfl, rfl⟩)))
   go_ret
   exact ⟨rfl, rfl⟩

theorem shl_bits (p d : Nat) : Op.shift .shl .u64 (p : Int) .i64 (d : Int) = pure (.int .u64 ((p * 2 ^ d % 18446744073709551616 : Nat) : Int)) := by
 have h0 : ¬ ((d : Int) < 0) := by omega
 unfold Op.shift
 rw [if_neg h0]
 simp only [Int.toNat_natCast, IntKind.bits]
 by_cases h : d ≤ 64
 · rw [Nat.min_eq_left h, IntKind.wrap_u64]
   simp
 · rw [Nat.min_eq_right (by omega), IntKind.wrap_u64]
   obtain ⟨c, rfl⟩ : ∃ c, d = 64 + c := ⟨d - 64, by omega⟩
   have e : p * 2 ^ (64 + c) % 18446744073709551616 = 0 := by
    rw [Nat.pow_add, show (2 : Nat) ^ 64 = 18446744073709551616 by decide, ← Nat.mul_assoc, Nat.mul_comm p, Nat.mul_assoc]
    exact Nat.mul_mod_right _ _
   rw [e]
   congr 2
   have : (2 : Int) ^ 64 = 18446744073709551616 := by decide
   rw [this]
   omega

set_option maxRecDepth 100000 in
theorem mark_any (g : Nat) (L : List Int) (i : Int) (w : World) (hW : WinAt w g L) (hi : i ≤ 9223372036854775807) (ht : hiL L ≤ 9223372036854775807) :
 Calls Tryz.prog 39 #[.pointer (some ⟨g, 0, none⟩), .int .i64 i] w fun e w' => e = .returned (.int .i64 (if frL L i = true then 0 else 5)) ∧ WinAt w' g (mkL L i) ∧ Only g w w' := by
 have hfr := fresh_any g L i w hW hi ht
 cases hf : frL L i
 · rw [hf] at hfr
   rw [mkL_not hf]
   have HF := Lib.hid hfr
   have HW := Lib.hid hW
   clear hfr hf hW
   simp only [Bool.false_eq_true, if_false]
   go_enter Tryz.func39, Tryz.ntmps39
   go_wp2_with (go_at_call 37; ((with_reducible refine (Hid.out HF).mono ?_); rintro e w' ⟨rfl, rfl⟩))
   go_ret
   exact ⟨rfl, HW.out, Only.refl _ _⟩
 rw [hf] at hfr
 have hf0 := ((frL_iff L i).1 hf).1
 obtain ⟨x, p, hS, hB⟩ := hW
 have hxp := hS.hpos
 simp only [if_true]
 have HF := Lib.hid hfr
 have hc0 : w.cell? ⟨g, 0, none⟩ = some (.int .i64 x) := (hB.cell 0).trans rfl
 have hc1 : w.cell? ⟨g, 1, none⟩ = some (.int .u64 (p : Int)) := (hB.cell 1).trans rfl
 have hr0 := hB.frozen 0
 have hr1 := hB.frozen 1
 by_cases hx : x < i
 · obtain ⟨d, hd⟩ := Int.eq_ofNat_of_zero_le (show 0 ≤ i - x by omega)
   have hU := hS.up hx d hd
   have hsh := shl_bits p d
   obtain ⟨P, hP⟩ : ∃ P, P = p * 2 ^ d % 18446744073709551616 := ⟨_, rfl⟩
   rw [← hP] at hU hsh
   have hor : bits .or .u64 (P : Int) 1 = ((P ||| 1 : Nat) : Int) := u64_or_nat P 1 (by omega) (by omega)
   obtain ⟨Q, hQ⟩ : ∃ Q, Q = P ||| 1 := ⟨_, rfl⟩
   rw [← hQ] at hU hor
   have hw1 : IntKind.i64.wrap (d : Int) = (d : Int) := IntWalk.i64_in _ (by omega)
   have hO0 := (Only.refl g w).drew
   have hBd := hB.drew
   have HU := Lib.hid hU
   have HB := Lib.hid (And.intro hBd hO0)
   clear hU hP hQ hS hfr hf hBd hO0 hB
   go_enter Tryz.func39, Tryz.ntmps39
   go_wp2_with (go_at_call 37; ((with_reducible refine (Hid.out HF).mono ?_); rintro e w' ⟨rfl, rfl⟩))
   go_still_tail 13, (by kernel_rfl)
   change wpList _ _ _ _ _ (World.drew w)
   clear hc0 hc1 hr0 hr1 HF
   generalize w.drew = w2 at *
   have HB := HB.out
   have hc0 : w2.cell? ⟨g, 0, none⟩ = some (.int .i64 x) := (HB.1.cell 0).trans rfl
   have hc1 : w2.cell? ⟨g, 1, none⟩ = some (.int .u64 (p : Int)) := (HB.1.cell 1).trans rfl
   have hr0 := HB.1.frozen 0
   have hr1 := HB.1.frozen 1
   have hB2 := (HB.1.set_ 1 (.int .u64 (P : Int))).set_ 0 (.int .i64 i)
   have hO2 := HB.2.trans ((Only.set w2 g 1 (.int .u64 (P : Int))).trans (Only.set _ g 0 (.int .i64 i)))
   have HB2 := Lib.hid (And.intro hB2 hO2)
   clear HB hB2 hO2
   go_wp2
   generalize (w2.setCell ⟨g, 1, none⟩ (.int .u64 (P : Int))).setCell ⟨g, 0, none⟩ (.int .i64 i) = w3 at *
   clear hc0 hc1 hr0 hr1
   have hc0 : w3.cell? ⟨g, 0, none⟩ = some (.int .i64 i) := (HB2.out.1.cell 0).trans rfl
   have hc1 : w3.cell? ⟨g, 1, none⟩ = some (.int .u64 (P : Int)) := (HB2.out.1.cell 1).trans rfl
   have hii : IntKind.i64.wrap 0 = 0 := IntWalk.i64_in _ (by omega)
   have hiu : IntKind.u64.wrap 1 = 1 := IntWalk.u64_in _ (by omega)
   have hsh1 : Op.shift .shl .u64 1 .i64 0 = pure (.int .u64 1) := shl_bits 1 0
   go_still_tail 14, (by kernel_rfl)
   change wpList _ _ _ _ _ (World.drew w3)
   have hB3 := HB2.out.1.drew
   have hO3 := HB2.out.2.drew
   clear hc0 hc1
   generalize w3.drew = w4 at *
   have hr1 := hB3.frozen 1
   have hc1 : w4.cell? ⟨g, 1, none⟩ = some (.int .u64 (P : Int)) := (hB3.cell 1).trans rfl
   have hB4 := hB3.set_ 1 (.int .u64 (Q : Int))
   have hO4 := hO3.trans (Only.set _ g 1 (.int .u64 (Q : Int)))
   clear hB3 hO3
   go_wp2
   go_ret
   exact ⟨rfl, ⟨i, Q, HU.out, hB4⟩, hO4⟩
 · obtain ⟨d, hd⟩ := Int.eq_ofNat_of_zero_le (show 0 ≤ x - i by omega)
   obtain ⟨hU, hd6⟩ := hS.in (by omega) hf d hd
   have hsh : Op.shift .shl .u64 1 .i64 (d : Int) = pure (.int .u64 ((2 ^ d : Nat) : Int)) := by
    have h := shl_bits 1 d
    rw [Nat.one_mul, Nat.mod_eq_of_lt (by rw [two64]; exact Nat.pow_lt_pow_right (by decide) hd6)] at h
    exact h
   have hpl : 2 ^ d < 18446744073709551616 := by rw [two64]; exact Nat.pow_lt_pow_right (by decide) hd6
   have he : (2 : Int) ^ d = ((2 ^ d : Nat) : Int) := by simp
   obtain ⟨R, hR⟩ : ∃ R, R = 2 ^ d := ⟨_, rfl⟩
   rw [← hR] at hU hsh hpl he
   have hpw : IntKind.u64.wrap (2 ^ d) = (R : Int) := by rw [he]; exact IntWalk.u64_in _ (by omega)
   clear he
   have hor := u64_or_nat p R hS.lt hpl
   obtain ⟨Q, hQ⟩ : ∃ Q, Q = p ||| R := ⟨_, rfl⟩
   rw [← hQ] at hU hor
   have hw1 : IntKind.i64.wrap (d : Int) = (d : Int) := IntWalk.i64_in _ (by omega)
   have HU := Lib.hid hU
   have hBd := hB.drew
   have hO0 := (Only.refl g w).drew
   have HB := Lib.hid (And.intro hBd hO0)
   clear hU hQ hR hS hfr hf hBd hO0 hB hpl
   go_enter Tryz.func39, Tryz.ntmps39
   go_wp2_with (go_at_call 37; ((with_reducible refine (Hid.out HF).mono ?_); rintro e w' ⟨rfl, rfl⟩))
   go_still_tail 14, (by kernel_rfl)
   change wpList _ _ _ _ _ (World.drew w)
   clear hc0 hc1 hr0 hr1 HF
   generalize w.drew = w4 at *
   have hB3 := HB.out.1
   have hO3 := HB.out.2
   have hr1 := hB3.frozen 1
   have hc1 : w4.cell? ⟨g, 1, none⟩ = some (.int .u64 (p : Int)) := (hB3.cell 1).trans rfl
   have hB4 := hB3.set_ 1 (.int .u64 (Q : Int))
   have hO4 := hO3.trans (Only.set _ g 1 (.int .u64 (Q : Int)))
   clear hB3 hO3 HB
   go_wp2
   go_ret
   exact ⟨rfl, ⟨x, Q, HU.out, hB4⟩, hO4⟩
def icells (L : List Int) : List Value := L.map fun z => .int .i64 z
def RdI (w : World) (A : Option Addr) (n : Nat) (zs : List Int) : Prop :=
 zs.length = n ∧ n ≤ 9223372036854775807 ∧ (∀ z ∈ zs, -9223372036854775808 ≤ z ∧ z ≤ 9223372036854775807) ∧
 (0 < n → ∃ b off, A = some ⟨b, off, none⟩ ∧ b < w.heap.size ∧ ∀ j, j < n → w.cell? ⟨b, off + j, none⟩ = some (.int .i64 (zs.getD j 0)))
theorem RdI.len {w : World} {A : Option Addr} {n : Nat} {zs : List Int} (h : RdI w A n zs) : zs.length = n := h.1
theorem RdI.small {w : World} {A : Option Addr} {n : Nat} {zs : List Int} (h : RdI w A n zs) : n ≤ 9223372036854775807 := h.2.1
theorem RdI.bd {w : World} {A : Option Addr} {n : Nat} {zs : List Int} (h : RdI w A n zs) {j : Nat} (hj : j < n) : -9223372036854775808 ≤ zs.getD j 0 ∧ zs.getD j 0 ≤ 9223372036854775807 := by
 have hl := h.len
 have : j < zs.length := by omega
 rw [List.getD_eq_getElem?_getD, List.getElem?_eq_getElem this, Option.getD_some]
 exact h.2.2.1 _ (List.getElem_mem this)
theorem RdI.below {w w' : World} {A : Option Addr} {n : Nat} {zs : List Int} (h : RdI w A n zs) {B : Nat} (hb : Below B w w') (hB : w.heap.size ≤ B) : RdI w' A n zs := by
 refine ⟨h.1, h.2.1, h.2.2.1, fun hn => ?_⟩
 obtain ⟨b, off, hA, hlt, hc⟩ := h.2.2.2 hn
 exact ⟨b, off, hA, Nat.lt_of_lt_of_le hlt hb.size, fun j hj => (hb.cell (p := ⟨b, off + j, none⟩) (by simp only; omega)).trans (hc j hj)⟩
theorem RdI.drew {w : World} {A : Option Addr} {n : Nat} {zs : List Int} (h : RdI w A n zs) : RdI w.drew A n zs := h
theorem RdI.at_ {w : World} {A : Option Addr} {n : Nat} {zs : List Int} (h : RdI w A n zs) {j : Nat} (hj : j < n) : ∃ ad, A = some ad ∧ w.cell? (ad.add j) = some (.int .i64 (zs.getD j 0)) := by
 obtain ⟨b, off, hA, _, hc⟩ := h.2.2.2 (by omega)
 exact ⟨_, hA, by rw [add_lit]; exact hc j hj⟩
theorem own_keep {w w' : World} {base n : Nat} {e : TypeId} {v : Value} {xs : List Value} (h : w.ownsRow base e 1 v n xs) (hb : Below w.heap.size w w') : w'.ownsRow base e 1 v n xs :=
 h.kept (grown_of_below hb none) (by cases v.ownBlock <;> simp)
def RW (base r : Nat) (L : List Int) (w : World) : Prop :=
 ∃ A c, BlkV w r 235 [.slice A L.length c] ∧ w.ownsRow base 2 1 (.slice A L.length c) L.length (icells L)
theorem RW.lt {base r : Nat} {L : List Int} {w : World} (h : RW base r L w) : r < w.heap.size := by obtain ⟨_, _, hB, _⟩ := h; exact hB.lt
theorem RW.below {base r : Nat} {L : List Int} {w w' : World} (h : RW base r L w) (hb : Below w.heap.size w w') : RW base r L w' := by
 obtain ⟨A, c, hB, hO⟩ := h
 exact ⟨A, c, hB.below hb hB.lt, own_keep hO hb⟩
theorem RW.drew {base r : Nat} {L : List Int} {w : World} (h : RW base r L w) : RW base r L w.drew := h.below ((Below.refl _ _).drew)

structure WinF (w : World) (r : Nat) (v : Value) (L : List Int) : Prop where
 b : BlkV w r 235 [v]
 o : w.ownsRow 0 2 1 v L.length (icells L)
theorem WinF.rw {w : World} {r : Nat} {v : Value} {L : List Int} (h : WinF w r v L) : RW 0 r L w := by
 obtain ⟨A, c, hv⟩ := own_formN h.o
 subst hv
 exact ⟨A, c, h.b, h.o⟩
def Wy.good (y : Wy) : Prop := y.fit ∧ y.used ≤ 900 ∧ ∀ x ∈ y.ws, (x.2.length : Int) ≤ y.used ∧ ∀ i ∈ x.2, 0 ≤ i ∧ i < 281474976710656
theorem Wy.good.at_ {y : Wy} (h : y.good) {i : Nat} (hi : i < y.ws.length) : (y.ws.getD i (0, [])).1 < 4294967296 ∧ (y.ws.getD i (0, [])).2.length ≤ 900 ∧ hiL (y.ws.getD i (0, [])).2 < 281474976710656 ∧ ∀ x ∈ (y.ws.getD i (0, [])).2, 0 ≤ x ∧ x < 281474976710656 := by
 have e : y.ws.getD i (0, []) = y.ws[i] := by simp [List.getD, hi]
 have hm : y.ws.getD i (0, []) ∈ y.ws := e ▸ List.getElem_mem hi
 obtain ⟨hf, hu, hw⟩ := h
 obtain ⟨h1, h2⟩ := hw _ hm
 refine ⟨hf.2.2.2.2.2.2 _ hm, by omega, ?_, h2⟩
 rcases (hiL_facts (y.ws.getD i (0, [])).2).2.2 with h | h
 · omega
 · exact (h2 _ h).2
section
variable {w w2 : World} {g : Nat} {y : Wy} {nm ww : Value} {r : Nat → Nat} {v : Nat → Value}
end
def atW : List (Nat × List Int) → Nat → Option Nat
 | [], _ => none
 | (n, _) :: l, x => if n = x then some 0 else (atW l x).map (· + 1)
theorem atW_some : ∀ {ws : List (Nat × List Int)} {x i : Nat}, atW ws x = some i → i < ws.length ∧ (ws.getD i (0, [])).1 = x ∧ lookW ws x = some (ws.getD i (0, [])).2
 | [], _, _, h => nomatch h
 | (n, L) :: l, x, i, h => by
   unfold atW at h
   unfold lookW
   by_cases e : n = x
   · rw [if_pos e] at h
     injection h with h
     subst h
     rw [if_pos e]
     exact ⟨by simp, e, rfl⟩
   · rw [if_neg e] at h
     rw [if_neg e]
     match hl : atW l x with
     | none => rw [hl] at h; exact nomatch h
     | some j =>
       rw [hl] at h
       simp only [Option.map_some, Option.some.injEq] at h
       subst h
       obtain ⟨h1, h2, h3⟩ := atW_some hl
       exact ⟨by simp only [List.length_cons]; omega, by simpa using h2, by simpa using h3⟩
theorem atW_none : ∀ {ws : List (Nat × List Int)} {x : Nat}, atW ws x = none → lookW ws x = none ∧ ∀ i, i < ws.length → (ws.getD i (0, [])).1 ≠ x
 | [], _, _ => ⟨rfl, fun _ h => absurd h (by simp)⟩
 | (n, L) :: l, x, h => by
   unfold atW at h
   unfold lookW
   by_cases e : n = x
   · rw [if_pos e] at h; exact nomatch h
   · rw [if_neg e] at h
     rw [if_neg e]
     have hl : atW l x = none := by simpa using h
     obtain ⟨h1, h2⟩ := atW_none hl
     refine ⟨h1, fun i hi => ?_⟩
     match i with
     | 0 => exact e
     | i + 1 => simpa using h2 i (by simp only [List.length_cons] at hi; omega)
theorem putY_some : ∀ {ws : List (Nat × List Int)} {x i : Nat} (L : List Int), atW ws x = some i → putY ws x L = ws.set i ((ws.getD i (0, [])).1, L)
 | [], _, _, _, h => nomatch h
 | (n, M) :: l, x, i, L, h => by
   unfold atW at h
   unfold putY
   by_cases e : n = x
   · rw [if_pos e] at h
     injection h with h
     subst h
     rw [if_pos e]
     rfl
   · rw [if_neg e] at h
     rw [if_neg e]
     match hl : atW l x with
     | none => rw [hl] at h; exact nomatch h
     | some j =>
       rw [hl] at h
       simp only [Option.map_some, Option.some.injEq] at h
       subst h
       rw [putY_some L hl]
       simp
theorem putY_none : ∀ {ws : List (Nat × List Int)} {x : Nat} (L : List Int), atW ws x = none → putY ws x L = ws ++ [(x, L)]
 | [], _, _, _ => rfl
 | (n, M) :: l, x, L, h => by
   unfold atW at h
   unfold putY
   by_cases e : n = x
   · rw [if_pos e] at h; exact nomatch h
   · rw [if_neg e] at h
     rw [if_neg e]
     have hl : atW l x = none := by simpa using h
     rw [putY_none L hl]
     rfl
def winW (ws : List (Nat × List Int)) (x : Nat) : List Int := (lookW ws x).getD []
def markW (ws : List (Nat × List Int)) (x : Nat) (i : Int) : List (Nat × List Int) := putY ws x (mkL (winW ws x) i)
theorem winW_some {ws : List (Nat × List Int)} {x i : Nat} (h : atW ws x = some i) : winW ws x = (ws.getD i (0, [])).2 := by unfold winW; rw [(atW_some h).2.2]; rfl
theorem winW_none {ws : List (Nat × List Int)} {x : Nat} (h : atW ws x = none) : winW ws x = [] := by unfold winW; rw [(atW_none h).1]; rfl
theorem highW_win (ws : List (Nat × List Int)) (x : Nat) : highW ws x = hiL (winW ws x) := by
 unfold highW winW
 cases lookW ws x <;> rfl
theorem win_facts {y : Wy} (h : y.good) (x : Nat) : ((winW y.ws x).length : Int) ≤ y.used ∧ ∀ i ∈ winW y.ws x, 0 ≤ i ∧ i < 281474976710656 := by
 match ha : atW y.ws x with
 | none =>
   rw [winW_none ha]
   exact ⟨by have := h.1.2.2.2.2.1; simpa using this, fun i hi => nomatch hi⟩
 | some k =>
   rw [winW_some ha]
   have hk := (atW_some ha).1
   have hm : y.ws.getD k (0, []) ∈ y.ws := by
    have e : y.ws.getD k (0, []) = y.ws[k] := by simp [List.getD, hk]
    rw [e]; exact List.getElem_mem _
   exact h.2.2 _ hm
structure Wc where
 y : Wy
 nx : Int
def Wc.good (s : Wc) : Prop := s.y.good ∧ 0 ≤ s.nx ∧ s.nx ≤ 2147483648
def soC (b : List UInt8) : Nat := numb ((b.drop 4).take 4)
def inC (b : List UInt8) : Nat := numb ((b.drop (b.length - 14)).take 4)
def idC (b : List UInt8) : Nat := inC b % 2147483648
def turnC (y : Wy) (b : List UInt8) (i : Nat) : List UInt8 := b.take 8 ++ cph y.key (firstC y.salt (soC b) i) (b.drop 8)
def tagC (y : Wy) (b : List UInt8) : List UInt8 := (macFull y.auth b).take 10
def headC (y : Wy) (b : List UInt8) (i : Nat) : List UInt8 := turnC y b i ++ beb 4 (2147483648 + i)
def sealC (y : Wy) (b : List UInt8) (i : Nat) : List UInt8 := headC y b i ++ tagC y (headC y b i)
def plainC (y : Wy) (b : List UInt8) : List UInt8 := turnC y (b.take (b.length - 14)) (idC b)
def whyC (y : Wy) (b : List UInt8) : Int :=
 if 1200 < b.length then 3 else if b.length < 22 then 2 else if inC b < 2147483648 then 3
 else if y.limit ≤ y.used then 7
 else if lookW y.ws (soC b) = none ∧ 8 ≤ y.ws.length then 6
 else if ∃ L, lookW y.ws (soC b) = some L ∧ frL L (idC b : Int) = false then 5
 else if tagC y (b.take (b.length - 10)) ≠ b.drop (b.length - 10) then 4
 else 0
def openC (y : Wy) (b : List UInt8) : Wy := { y with used := y.used + 1, ws := markW y.ws (soC b) (idC b : Int) }

theorem soC_lt (b : List UInt8) : soC b < 4294967296 := by
 have h := numb_lt ((b.drop 4).take 4)
 have hl : ((b.drop 4).take 4).length ≤ 4 := by rw [List.length_take]; omega
 exact Nat.lt_of_lt_of_le h (Nat.le_trans (Nat.pow_le_pow_right (by omega) hl) (by decide))
theorem inC_lt (b : List UInt8) : inC b < 4294967296 := by
 have h := numb_lt ((b.drop (b.length - 14)).take 4)
 have hl : ((b.drop (b.length - 14)).take 4).length ≤ 4 := by rw [List.length_take]; omega
 exact Nat.lt_of_lt_of_le h (Nat.le_trans (Nat.pow_le_pow_right (by omega) hl) (by decide))
theorem idC_lt (b : List UInt8) : idC b < 2147483648 := Nat.mod_lt _ (by decide)
theorem soC_take {b : List UInt8} {m : Nat} (h : 8 ≤ m) : soC (b.take m) = soC b := by
 unfold soC
 rw [List.drop_take, List.take_take, Nat.min_eq_left (by omega)]
theorem soC_alike {X B : List UInt8} {m : Nat} (h1 : 8 ≤ m) (h : X.take m = B.take m) : soC X = soC B := by
 rw [← soC_take (b := X) h1, h, soC_take h1]
theorem turnC_len (y : Wy) {b : List UInt8} (i : Nat) (h : 8 ≤ b.length) : (turnC y b i).length = b.length := by
 unfold turnC
 rw [List.length_append, List.length_take, cph_len, List.length_drop]
 omega
theorem turnC_take (y : Wy) {b : List UInt8} (i : Nat) (h : 8 ≤ b.length) : (turnC y b i).take 8 = b.take 8 := by
 have e : (b.take 8).length = 8 := by rw [List.length_take]; omega
 unfold turnC
 rw [List.take_left' e]
theorem soC_turn (y : Wy) {b : List UInt8} (i : Nat) (h : 8 ≤ b.length) : soC (turnC y b i) = soC b := soC_alike (Nat.le_refl 8) (turnC_take y i h)
theorem turnC_twice (y : Wy) {b : List UInt8} (i : Nat) (h : 8 ≤ b.length) : turnC y (turnC y b i) i = b := by
 have e : (b.take 8).length = 8 := by rw [List.length_take]; omega
 have h2 := soC_turn y i h
 have h3 := turnC_take y i h
 unfold turnC at h2 h3 ⊢
 rw [h2, h3, List.drop_left' e, cph_twice, List.take_append_drop]
theorem tagC_len (y : Wy) (b : List UInt8) : (tagC y b).length = 10 := by
 unfold tagC
 rw [List.length_take, macFull_len]
 rfl
theorem headC_len (y : Wy) {b : List UInt8} (i : Nat) (h : 8 ≤ b.length) : (headC y b i).length = b.length + 4 := by
 unfold headC
 rw [List.length_append, turnC_len y i h, length_beb]
theorem sealC_len (y : Wy) {b : List UInt8} (i : Nat) (h : 8 ≤ b.length) : (sealC y b i).length = b.length + 14 := by
 unfold sealC
 rw [List.length_append, headC_len y i h, tagC_len]
theorem sealC_parts (y : Wy) {b : List UInt8} (i : Nat) (h : 8 ≤ b.length) (hi : i < 2147483648) :
 (sealC y b i).take ((sealC y b i).length - 14) = turnC y b i ∧ (sealC y b i).take ((sealC y b i).length - 10) = headC y b i ∧ (sealC y b i).drop ((sealC y b i).length - 10) = tagC y (headC y b i) ∧ inC (sealC y b i) = 2147483648 + i ∧ idC (sealC y b i) = i ∧ soC (sealC y b i) = soC b := by
 have hl := sealC_len y i h
 have ht := turnC_len y i h
 have hh := headC_len y i h
 have e1 : (sealC y b i).length - 14 = b.length := by omega
 have e2 : (sealC y b i).length - 10 = b.length + 4 := by omega
 have p1 : (sealC y b i).take b.length = turnC y b i := by
  unfold sealC headC
  rw [List.append_assoc, List.take_left' ht]
 have p2 : inC (sealC y b i) = 2147483648 + i := by
  unfold inC
  rw [e1]
  unfold sealC
  conv => lhs; unfold headC
  rw [List.append_assoc, List.drop_left' ht, List.take_left' (length_beb _ _), numb_beb]
  omega
 refine ⟨by rw [e1, p1], ?_, ?_, p2, ?_, ?_⟩
 · rw [e2]; unfold sealC; rw [List.take_left' hh]
 · rw [e2]; unfold sealC; rw [List.drop_left' hh]
 · unfold idC; rw [p2]; omega
 · rw [← soC_take (b := sealC y b i) (m := b.length) h, p1, soC_turn y i h]
theorem sealC_plain (y : Wy) {b : List UInt8} (i : Nat) (h : 8 ≤ b.length) (hi : i < 2147483648) : plainC y (sealC y b i) = b := by
 obtain ⟨p1, _, _, _, p5, _⟩ := sealC_parts y i h hi
 unfold plainC
 rw [p1, p5, turnC_twice y i h]
section
variable {y : Wy} {b : List UInt8}
theorem whyC_big (h : 1200 < b.length) : whyC y b = 3 := by unfold whyC; rw [if_pos h]
theorem whyC_short (h : ¬ 1200 < b.length) (h2 : b.length < 22) : whyC y b = 2 := by unfold whyC; rw [if_neg h, if_pos h2]
theorem whyC_open (h : ¬ 1200 < b.length) (h2 : ¬ b.length < 22) (h3 : inC b < 2147483648) : whyC y b = 3 := by unfold whyC; rw [if_neg h, if_neg h2, if_pos h3]
theorem whyC_7 (h : ¬ 1200 < b.length) (h2 : ¬ b.length < 22) (h3 : ¬ inC b < 2147483648) (h4 : y.limit ≤ y.used) : whyC y b = 7 := by unfold whyC; rw [if_neg h, if_neg h2, if_neg h3, if_pos h4]
theorem whyC_6 (h : ¬ 1200 < b.length) (h2 : ¬ b.length < 22) (h3 : ¬ inC b < 2147483648) (h4 : ¬ y.limit ≤ y.used) (h5 : lookW y.ws (soC b) = none ∧ 8 ≤ y.ws.length) : whyC y b = 6 := by unfold whyC; rw [if_neg h, if_neg h2, if_neg h3, if_neg h4, if_pos h5]
theorem whyC_5 (h : ¬ 1200 < b.length) (h2 : ¬ b.length < 22) (h3 : ¬ inC b < 2147483648) (h4 : ¬ y.limit ≤ y.used) (h5 : ¬ (lookW y.ws (soC b) = none ∧ 8 ≤ y.ws.length)) (h6 : ∃ L, lookW y.ws (soC b) = some L ∧ frL L (idC b : Int) = false) : whyC y b = 5 := by unfold whyC; rw [if_neg h, if_neg h2, if_neg h3, if_neg h4, if_neg h5, if_pos h6]
theorem whyC_4 (h : ¬ 1200 < b.length) (h2 : ¬ b.length < 22) (h3 : ¬ inC b < 2147483648) (h4 : ¬ y.limit ≤ y.used) (h5 : ¬ (lookW y.ws (soC b) = none ∧ 8 ≤ y.ws.length)) (h6 : ¬ ∃ L, lookW y.ws (soC b) = some L ∧ frL L (idC b : Int) = false) (h7 : tagC y (b.take (b.length - 10)) ≠ b.drop (b.length - 10)) : whyC y b = 4 := by unfold whyC; rw [if_neg h, if_neg h2, if_neg h3, if_neg h4, if_neg h5, if_neg h6, if_pos h7]
theorem whyC_0 (h : ¬ 1200 < b.length) (h2 : ¬ b.length < 22) (h3 : ¬ inC b < 2147483648) (h4 : ¬ y.limit ≤ y.used) (h5 : ¬ (lookW y.ws (soC b) = none ∧ 8 ≤ y.ws.length)) (h6 : ¬ ∃ L, lookW y.ws (soC b) = some L ∧ frL L (idC b : Int) = false) (h7 : tagC y (b.take (b.length - 10)) = b.drop (b.length - 10)) : whyC y b = 0 := by unfold whyC; rw [if_neg h, if_neg h2, if_neg h3, if_neg h4, if_neg h5, if_neg h6, if_neg (fun k => k h7)]
theorem whyC_zero (h : whyC y b = 0) : ¬ 1200 < b.length ∧ ¬ b.length < 22 ∧ ¬ inC b < 2147483648 ∧ ¬ y.limit ≤ y.used ∧ ¬ (lookW y.ws (soC b) = none ∧ 8 ≤ y.ws.length) ∧ (¬ ∃ L, lookW y.ws (soC b) = some L ∧ frL L (idC b : Int) = false) ∧ tagC y (b.take (b.length - 10)) = b.drop (b.length - 10) := by
 have a1 : ¬ 1200 < b.length := fun k => absurd ((whyC_big k).symm.trans h) (by decide)
 have a2 : ¬ b.length < 22 := fun k => absurd ((whyC_short a1 k).symm.trans h) (by decide)
 have a3 : ¬ inC b < 2147483648 := fun k => absurd ((whyC_open a1 a2 k).symm.trans h) (by decide)
 have a4 : ¬ y.limit ≤ y.used := fun k => absurd ((whyC_7 a1 a2 a3 k).symm.trans h) (by decide)
 have a5 : ¬ (lookW y.ws (soC b) = none ∧ 8 ≤ y.ws.length) := fun k => absurd ((whyC_6 a1 a2 a3 a4 k).symm.trans h) (by decide)
 have a6 : ¬ ∃ L, lookW y.ws (soC b) = some L ∧ frL L (idC b : Int) = false := fun k => absurd ((whyC_5 a1 a2 a3 a4 a5 k).symm.trans h) (by decide)
 refine ⟨a1, a2, a3, a4, a5, a6, ?_⟩
 by_cases k : tagC y (b.take (b.length - 10)) = b.drop (b.length - 10)
 · exact k
 · exact absurd ((whyC_4 a1 a2 a3 a4 a5 a6 k).symm.trans h) (by decide)
end
theorem good_openC {y : Wy} (h : y.good) {b : List UInt8} (hu : y.used + 1 ≤ 900) (hz : whyC y b = 0) : (openC y b).good := by
 unfold openC
 obtain ⟨a1, a2, a3, a4, a5, a6, a7⟩ := whyC_zero hz
 have hid := idC_lt b
 obtain ⟨w1, w2⟩ := win_facts h (soC b)
 have hmk : ((mkL (winW y.ws (soC b)) (idC b : Int)).length : Int) ≤ y.used + 1 ∧ ∀ i ∈ mkL (winW y.ws (soC b)) (idC b : Int), 0 ≤ i ∧ i < 281474976710656 := by
  refine ⟨by have := mk_len (winW y.ws (soC b)) (idC b : Int); omega, fun i hi => ?_⟩
  cases hf : frL (winW y.ws (soC b)) (idC b : Int)
  · rw [mkL_not hf] at hi; exact w2 i hi
  · rw [mkL_of hf] at hi
    rcases List.mem_append.1 hi with hi | hi
    · exact w2 i hi
    · have : i = (idC b : Int) := by simpa using hi
      rw [this]
      omega
 obtain ⟨⟨h1, h2, h3, h4, h5, h6, h7⟩, h8, h9⟩ := h
 have hm : ∀ x ∈ markW y.ws (soC b) (idC b : Int), (x ∈ y.ws) ∨ (x.1 < 4294967296 ∧ x.2 = mkL (winW y.ws (soC b)) (idC b : Int)) := by
  intro x hx
  unfold markW at hx
  match ha : atW y.ws (soC b) with
  | none =>
    rw [putY_none _ ha] at hx
    rcases List.mem_append.1 hx with hx | hx
    · exact .inl hx
    · have : x = (soC b, mkL (winW y.ws (soC b)) (idC b : Int)) := by simpa using hx
      rw [this]
      exact .inr ⟨soC_lt b, rfl⟩
  | some k =>
    rw [putY_some _ ha] at hx
    have hk := (atW_some ha).1
    rcases List.mem_or_eq_of_mem_set hx with hx | hx
    · exact .inl hx
    · rw [hx]
      refine .inr ⟨?_, rfl⟩
      show (y.ws.getD k (0, [])).1 < 4294967296
      rw [(atW_some ha).2.1]
      exact soC_lt b
 have hl : (markW y.ws (soC b) (idC b : Int)).length ≤ 8 := by
  unfold markW
  match ha : atW y.ws (soC b) with
  | none =>
    rw [putY_none _ ha, List.length_append]
    have : ¬ 8 ≤ y.ws.length := fun k => a5 ⟨(atW_none ha).1, k⟩
    simp only [List.length_singleton]; omega
  | some k => rw [putY_some _ ha, List.length_set]; exact h6
 refine ⟨⟨h1, h2, h3, h4, by show 0 ≤ y.used + 1; omega, hl, fun x hx => ?_⟩, hu, fun x hx => ?_⟩
 · rcases hm x hx with k | k
   · exact h7 x k
   · exact k.1
 · show (x.2.length : Int) ≤ y.used + 1 ∧ _
   rcases hm x hx with k | k
   · have := h9 x k
     exact ⟨by omega, this.2⟩
   · rw [k.2]; exact hmk
theorem tagC_same {y z : Wy} (h : z.auth = y.auth) (b : List UInt8) : tagC z b = tagC y b := by unfold tagC; rw [h]
theorem turnC_same {y z : Wy} (h : z.key = y.key ∧ z.salt = y.salt) (b : List UInt8) (i : Nat) : turnC z b i = turnC y b i := by unfold turnC; rw [h.1, h.2]
theorem sealed_newC {y z : Wy} (hk : z.key = y.key ∧ z.auth = y.auth ∧ z.salt = y.salt) {b : List UInt8} {i : Nat} (h8 : 8 ≤ b.length) (hb : b.length ≤ 1186) (hi : i < 2147483648) (hu : ¬ z.limit ≤ z.used) (hw : z.ws = []) :
 whyC z (sealC y b i) = 0 ∧ plainC z (sealC y b i) = b ∧ openC z (sealC y b i) = { z with used := z.used + 1, ws := [(soC b, [(i : Int)])] } := by
 obtain ⟨p1, p2, p3, p4, p5, p6⟩ := sealC_parts y i h8 hi
 have hl := sealC_len y i h8
 refine ⟨?_, ?_, ?_⟩
 · refine whyC_0 (by omega) (by omega) (by rw [p4]; omega) hu (by rw [hw]; simp) (by rw [hw]; simp [lookW]) ?_
   rw [p2, p3, tagC_same hk.2.1]
 · have e : plainC z (sealC y b i) = plainC y (sealC y b i) := by unfold plainC; rw [turnC_same ⟨hk.1, hk.2.2⟩]
   rw [e, sealC_plain y i h8 hi]
 · unfold openC
   rw [p5, p6, hw]
   have : mkL [] (i : Int) = [(i : Int)] := by rw [mkL_of (fr_above (by omega) (by rw [hiL_nil]; omega))]; rfl
   unfold markW winW
   simp [lookW, putY, this]
theorem sealed_oldC {y z : Wy} {b : List UInt8} {i : Nat} (h8 : 8 ≤ b.length) (hb : b.length ≤ 1186) (hi : i < 2147483648) (hu : ¬ z.limit ≤ z.used) (hw : z.ws = [(soC b, [(i : Int)])]) : whyC z (sealC y b i) = 5 := by
 obtain ⟨p1, p2, p3, p4, p5, p6⟩ := sealC_parts y i h8 hi
 have hl := sealC_len y i h8
 refine whyC_5 (by omega) (by omega) (by rw [p4]; omega) hu (by rw [hw]; simp [lookW, p6]) ⟨[(i : Int)], by rw [p6, hw]; simp [lookW], ?_⟩
 rw [p5]
 simp [frL]
theorem new_authC {y : Wy} {X : List UInt8} (ht : tagC y (X.take (X.length - 10)) ≠ X.drop (X.length - 10)) : whyC y X ≠ 0 := fun h => ht (whyC_zero h).2.2.2.2.2.2
end Go.Proofs.YtheefckohnaceaaGreatDoor

namespace Go.Proofs.YtheefckohnaceaaGreatDoor
open Go.RowKit Go.ChangeMaps Go.Maps
set_option linter.unusedVariables false

def MapW (w : World) (b : Nat) (ws : List (Nat × List Int)) : Prop :=
 ∃ es clock, w.heap[b]? = some (.map es clock) ∧ es.size = ws.length ∧ (ws.map (·.1)).Nodup ∧
   ∀ i, i < ws.length → ∃ e h p, es[i]? = some e ∧ e.key = .int .u32 ((ws.getD i (0, [])).1 : Int) ∧ e.val = .agg #[.int .i64 h, .int .u64 (p : Nat)] ∧ WinS (ws.getD i (0, [])).2 h p
theorem MapW.lt {w : World} {b : Nat} {ws : List (Nat × List Int)} (h : MapW w b ws) : b < w.heap.size := by
 obtain ⟨es, clock, hb, _⟩ := h
 exact (Array.getElem?_eq_some_iff.1 hb).1
theorem MapW.stay {w w2 : World} {b : Nat} {ws : List (Nat × List Int)} (h : MapW w b ws) (hs : w2.heap[b]? = w.heap[b]?) : MapW w2 b ws := by
 obtain ⟨es, clock, hb, r⟩ := h
 exact ⟨es, clock, hs.trans hb, r⟩
theorem MapW.below {w w2 : World} {b : Nat} {ws : List (Nat × List Int)} (h : MapW w b ws) (hb : Below w.heap.size w w2) : MapW w2 b ws := h.stay (hb.block b h.lt)
theorem MapW.made (w : World) : MapW (w.alloc (.map #[] 0)) w.heap.size [] := ⟨#[], 0, (MapKept.heap_alloc w _).1, rfl, List.nodup_nil, fun i hi => absurd hi (Nat.not_lt_zero i)⟩
theorem map_blk {w : World} {b g : Nat} {ws : List (Nat × List Int)} {e : TypeId} {cs : List Value} (h : MapW w b ws) (hB : BlkV w g e cs) : b ≠ g := by
 rintro rfl
 obtain ⟨es, clock, hb, _⟩ := h
 unfold BlkV at hB
 rw [hb] at hB
 exact nomatch hB
theorem keyU {x : Nat} (hx : x < 4294967296) : keyOf Tryz.prog 36 (.int .u32 (x : Int)) = some (.int .u32 (x : Int)) :=
 keyOf_int_mk Tryz.underlying36 (by
  show (decide (IntKind.u32.min ≤ (x : Int)) && decide ((x : Int) ≤ IntKind.u32.max)) = true
  rw [show IntKind.u32.min = 0 from rfl, show IntKind.u32.max = 4294967295 from rfl]
  simp
  omega)
theorem keyed32 : Keyed Tryz.prog 36 := int_keyed Tryz.underlying36
theorem MapW.spot {es : Array MapEntry} {ws : List (Nat × List Int)} (hs : es.size = ws.length) (hn : (ws.map (·.1)).Nodup)
 (he : ∀ i, i < ws.length → ∃ e h p, es[i]? = some e ∧ e.key = .int .u32 ((ws.getD i (0, [])).1 : Int) ∧ e.val = .agg #[.int .i64 h, .int .u64 (p : Nat)] ∧ WinS (ws.getD i (0, [])).2 h p) {x : Nat} :
 (∀ j e, es[j]? = some e → e.key = .int .u32 (x : Int) → atW ws x = some j) ∧ ((∀ e ∈ es.toList, e.key ≠ .int .u32 (x : Int)) → atW ws x = none) := by
 refine ⟨fun j e hj hk => ?_, fun hno => ?_⟩
 · have hjl : j < ws.length := hs ▸ (Array.getElem?_eq_some_iff.1 hj).1
   obtain ⟨e2, h, p, h1, h2, _⟩ := he j hjl
   rw [hj] at h1
   injection h1 with h1
   subst h1
   rw [hk] at h2
   have hx : x = (ws.getD j (0, [])).1 := by
    injection h2 with _ h2
    omega
   match ha : atW ws x with
   | none => exact absurd hx.symm ((atW_none ha).2 j hjl)
   | some i =>
     obtain ⟨hi, hi2, _⟩ := atW_some ha
     have e1 : (ws.map (·.1))[i]'(by simpa using hi) = (ws.map (·.1))[j]'(by simpa using hjl) := by
      simp only [List.getElem_map]
      have a1 : (ws.getD i (0, [])) = ws[i] := by simp [List.getD, hi]
      have a2 : (ws.getD j (0, [])) = ws[j] := by simp [List.getD, hjl]
      rw [← a1, ← a2, hi2, hx]
     have hp := List.pairwise_iff_getElem.1 hn
     rcases Nat.lt_trichotomy i j with k | k | k
     · exact absurd e1 (hp i j (by simpa using hi) (by simpa using hjl) k)
     · rw [k]
     · exact absurd e1.symm (hp j i (by simpa using hjl) (by simpa using hi) k)
 · match ha : atW ws x with
   | none => rfl
   | some i =>
     obtain ⟨hi, hi2, _⟩ := atW_some ha
     obtain ⟨e, h, p, h1, h2, _⟩ := he i hi
     rw [hi2] at h2
     exact absurd h2 (hno e (List.mem_of_getElem? (by simpa using h1)))
theorem MapW.keys {es : Array MapEntry} {ws : List (Nat × List Int)} (hs : es.size = ws.length) (hlt : ∀ y ∈ ws, y.1 < 4294967296)
 (he : ∀ i, i < ws.length → ∃ e h p, es[i]? = some e ∧ e.key = .int .u32 ((ws.getD i (0, [])).1 : Int) ∧ e.val = .agg #[.int .i64 h, .int .u64 (p : Nat)] ∧ WinS (ws.getD i (0, [])).2 h p) :
 ∀ e ∈ es.toList, ∃ l, keyOf Tryz.prog 36 e.key = some l := by
 intro e hm
 obtain ⟨i, hi, hie⟩ := List.getElem_of_mem hm
 have hil : i < ws.length := by rw [← hs]; simpa using hi
 obtain ⟨e2, h, p, h1, h2, _⟩ := he i hil
 have : e = e2 := by
  have h3 : es[i]? = some e := by
   have := List.getElem?_eq_getElem hi
   rw [hie] at this
   simpa using this
  rw [h3] at h1
  exact Option.some.inj h1
 subst this
 rw [h2]
 have hm2 : ws.getD i (0, []) ∈ ws := by
  have a1 : (ws.getD i (0, [])) = ws[i] := by simp [List.getD, hil]
  rw [a1]
  exact List.getElem_mem hil
 exact ⟨_, keyU (hlt _ hm2)⟩
theorem MapW.look {w : World} {b : Nat} {ws : List (Nat × List Int)} (h : MapW w b ws) (hlt : ∀ y ∈ ws, y.1 < 4294967296) {x : Nat} (hx : x < 4294967296) :
 ∃ (hh : Int) (p : Nat), WinS (winW ws x) hh p ∧ ∀ c, (Instr.lookup 64 (.map (some b)) (.int .u32 (x : Int)) c).run Tryz.prog w = .ok (if c then .tuple #[.agg #[.int .i64 hh, .int .u64 (p : Int)], .bool (atW ws x).isSome] else .agg #[.int .i64 hh, .int .u64 (p : Int)]) w := by
 obtain ⟨es, clock, hb, hs, hn, he⟩ := h
 have hkey := keyU hx
 have sp := MapW.spot (x := x) hs hn he
 rcases keyed32.find w hkey es.toList (MapW.keys hs hlt he) with ⟨h1, h2⟩ | ⟨j, e0, h1, h2, h3⟩
 · have ha := sp.2 h2
   refine ⟨0, 0, by rw [winW_none ha]; exact WinS.nil, fun c => ?_⟩
   rw [ha]
   cases c <;> simp [Instr.lookup, run_underlying Tryz.underlying64, MapKept.run_getObj_map hb, keyed32.check w _ hkey, h1, Result.andThen]
 · have hj : es[j]? = some e0 := by simpa using h2
   have ha := sp.1 j e0 hj h3
   obtain ⟨hjl, hj2, hj3⟩ := atW_some ha
   obtain ⟨e, hh, p, k1, k2, k3, k4⟩ := he j hjl
   rw [hj] at k1
   injection k1 with k1
   subst k1
   refine ⟨hh, p, by rw [winW_some ha]; exact k4, fun c => ?_⟩
   rw [ha]
   cases c <;> simp [Instr.lookup, run_underlying Tryz.underlying64, MapKept.run_getObj_map hb, keyed32.check w _ hkey, h1, k3, Result.andThen]
theorem MapW.len_ {w : World} {b : Nat} {ws : List (Nat × List Int)} (h : MapW w b ws) (ty : TypeId) : (Builtin.len_ #[64] ty #[.map (some b)]).run Tryz.prog w = .ok (.int .i64 (ws.length : Nat)) w := by
 obtain ⟨es, clock, hb, hs, _⟩ := h
 rw [← hs]
 simp [Builtin.len_, run_underlying Tryz.underlying64, MapKept.run_getObj_map hb, goInt, Result.andThen]
theorem names_put {ws : List (Nat × List Int)} {x : Nat} {L : List Int} (hn : (ws.map (·.1)).Nodup) : ((putY ws x L).map (·.1)).Nodup := by
 match ha : atW ws x with
 | none =>
   rw [putY_none L ha, List.map_append]
   refine List.nodup_append.2 ⟨hn, by simp, fun a h1 b h2 => ?_⟩
   have hb2 : b = x := by simpa using h2
   subst hb2
   rintro rfl
   obtain ⟨y, hy, rfl⟩ := List.mem_map.1 h1
   obtain ⟨i, hi, e⟩ := List.getElem_of_mem hy
   exact (atW_none ha).2 i hi (by rw [← e]; simp [List.getD, hi])
 | some i =>
   obtain ⟨hi, _, _⟩ := atW_some ha
   rw [putY_some L ha]
   have : (ws.set i ((ws.getD i (0, [])).1, L)).map (·.1) = ws.map (·.1) := by
    rw [List.map_set]
    refine List.ext_getElem? fun j => ?_
    rw [List.getElem?_set]
    by_cases e : i = j
    · subst e; simp [hi, List.getD]
    · rw [if_neg e]
   rw [this]
   exact hn
theorem only_block {w : World} {b : Nat} {es : Array MapEntry} {clock : Nat} (hb : w.heap[b]? = some (.map es clock)) (o : Obj) : Only b w (setBlock w b o) :=
 ⟨rfl, rfl, rfl, by simp [setBlock], fun i hi => heap_setBlock_other hb _ hi⟩
theorem MapW.store {w : World} {b : Nat} {ws : List (Nat × List Int)} (h : MapW w b ws) (hlt : ∀ y ∈ ws, y.1 < 4294967296) {x : Nat} (hx : x < 4294967296) {hh : Int} {p : Nat} {L : List Int} (hW : WinS L hh p) :
 ∃ w', (Instr.mapUpdate 64 (.map (some b)) (.int .u32 (x : Int)) (.agg #[.int .i64 hh, .int .u64 (p : Int)])).run Tryz.prog w = .ok () w' ∧ MapW w' b (putY ws x L) ∧ Only b w w' := by
 obtain ⟨es, clock, hb, hs, hn, he⟩ := h
 have hkey := keyU hx
 have sp := MapW.spot (x := x) hs hn he
 rcases keyed32.find w hkey es.toList (MapW.keys hs hlt he) with ⟨h1, h2⟩ | ⟨j, e0, h1, h2, h3⟩
 · have ha := sp.2 h2
   refine ⟨setBlock w b (.map (es.push ⟨.int .u32 (x : Int), .agg #[.int .i64 hh, .int .u64 (p : Int)], clock⟩) (clock + 1)), ?_, ⟨_, _, heap_setBlock_same hb _, ?_, names_put hn, ?_⟩, only_block hb _⟩
   · simp [Instr.mapUpdate, run_underlying Tryz.underlying64, MapKept.run_getObj_map hb, keyed32.check w false hkey, h1, MapKept.run_setObj_map _ hb, Result.andThen, setBlock]
   · rw [putY_none L ha]; simp [hs]
   · rw [putY_none L ha]
     intro i hi
     by_cases e : i = ws.length
     · subst e
       refine ⟨⟨.int .u32 (x : Int), .agg #[.int .i64 hh, .int .u64 (p : Int)], clock⟩, hh, p, ?_, ?_, rfl, ?_⟩
       · rw [← hs]; simp
       · simp [List.getD]
       · simpa [List.getD] using hW
     · have hi' : i < ws.length := by simp only [List.length_append, List.length_singleton] at hi; omega
       obtain ⟨e1, h', p', k1, k2, k3, k4⟩ := he i hi'
       have e2 : (ws ++ [(x, L)]).getD i (0, []) = ws.getD i (0, []) := by simp [List.getD, List.getElem?_append_left hi']
       rw [e2]
       exact ⟨e1, h', p', by rw [Array.getElem?_push, if_neg (by omega)]; exact k1, k2, k3, k4⟩
 · have hj : es[j]? = some e0 := by simpa using h2
   have ha := sp.1 j e0 hj h3
   obtain ⟨hjl, hj2, hj3⟩ := atW_some ha
   refine ⟨setBlock w b (.map (es.modify j (fun e' => { e' with key := .int .u32 (x : Int), val := .agg #[.int .i64 hh, .int .u64 (p : Int)] })) clock), ?_, ⟨_, _, heap_setBlock_same hb _, ?_, names_put hn, ?_⟩, only_block hb _⟩
   · simp [Instr.mapUpdate, run_underlying Tryz.underlying64, MapKept.run_getObj_map hb, keyed32.check w false hkey, h1, hj, h3, keyed32.stays w hkey, MapKept.run_setObj_map _ hb, Result.andThen, setBlock]
   · rw [putY_some L ha]; simp [hs]
   · rw [putY_some L ha]
     intro i hi
     have hi' : i < ws.length := by simpa using hi
     obtain ⟨e1, h', p', k1, k2, k3, k4⟩ := he i hi'
     by_cases e : j = i
     · subst e
       have e2 : (ws.set j ((ws.getD j (0, [])).1, L)).getD j (0, []) = ((ws.getD j (0, [])).1, L) := by simp [List.getD, hi']
       rw [e2]
       refine ⟨_, hh, p, by rw [Array.getElem?_modify, if_pos rfl, k1]; rfl, ?_, rfl, hW⟩
       rw [hj2]
     · have e2 : (ws.set j ((ws.getD j (0, [])).1, L)).getD i (0, []) = ws.getD i (0, []) := by simp [List.getD, e]
       rw [e2]
       exact ⟨e1, h', p', by rw [Array.getElem?_modify, if_neg e]; exact k1, k2, k3, k4⟩
end Go.Proofs.YtheefckohnaceaaGreatDoor
