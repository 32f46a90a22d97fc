/- Several texts in one: What package seqs answers, and what the document's answers for layer 2 (tenailleref02) answer: contracts that the proofs of the statements use. Plain words: ways of ciphered packets: what they seal, what they open, and what becomes of them. What the document's answers for layer 1 (tenailleref01) answer, and what they leave of memory: contracts that the proofs of the statements use. Plain words, for any program: rows of the call's own, of any elements; slices of elements of some cells that read; bytes of the call's own, so far. No statement is proved here. -/
import Derived.Test.YtmkeioeodlidgaaDoorProg
import Derived.WalkKit
import Derived.KernelRfl
import Derived.IntWalk
import Derived.LoopTactic
import Derived.Lib.Hide
import Derived.OpenShut
import Derived.Test.YtmkeioeodlidgaaDoorZM2
import Derived.Test.YtmkeioeodlidgaaDoorZM3
import Derived.Test.YtmkeioeodlidgaaDoorZM4
import Derived.Test.YtmkeioeodlidgaaDoorZBytes
import Derived.Test.YtmkeioeodlidgaaDoorZNums
import Derived.Test.YtmkeioeodlidgaaDoorZOct
import Derived.Test.YtmkeioeodlidgaaDoorZM1
import Derived.Maps.AppendAt
namespace Go.Proofs.YtmkeioeodlidgaaDoor
open Go.RowKit
set_option linter.unusedVariables false

/-- How far the number b is ahead of a. -/
def aheadZ (a b : Int) : Int := (b - a + 32768) % 65536 - 32768
/-- How far the stamp b is ahead of a. -/
def goneZ (a b : Int) : Int := (b - a + 2147483648) % 4294967296 - 2147483648
/-- The likely index. -/
def likely (h s : Int) : Int := if h < 0 then s else if h < aheadZ s h then h - aheadZ s h + 65536 else h - aheadZ s h

theorem aheadZ_bd (a b : Int) : -32768 ≤ aheadZ a b ∧ aheadZ a b ≤ 32767 := by unfold aheadZ; omega
theorem goneZ_bd (a b : Int) : -2147483648 ≤ goneZ a b ∧ goneZ a b ≤ 2147483647 := by unfold goneZ; omega
theorem ret_num {k : IntKind} {a b : Int} (h : a = b) : Ending.returned (.int k a) = .returned (.int k b) := by rw [h]
theorem ret_bool {a b : Bool} (h : a = b) : Ending.returned (.bool a) = .returned (.bool b) := by rw [h]

theorem wrap_u16_ (n : Int) : IntKind.u16.wrap n = n % 65536 := by simp [IntKind.wrap, IntKind.bits, IntKind.signed]
theorem wrap_i16_ (n : Int) : IntKind.i16.wrap n = (n + 32768) % 65536 - 32768 := by simp [IntKind.wrap, IntKind.bits, IntKind.signed]; omega

theorem ahead_eq (a b : Int) : wrap64 (IntKind.i16.wrap (IntKind.u16.wrap (b - a))) = aheadZ a b := by
  rw [wrap_u16_, wrap_i16_]; unfold wrap64 aheadZ; omega
theorem gone_eq (a b : Int) : wrap64 (wrap32 ((b - a) % 4294967296)) = goneZ a b := by
  unfold wrap64 wrap32 goneZ; omega
theorem ahead_mod (s h : Int) : aheadZ s (h % 65536) = aheadZ s h := by unfold aheadZ; omega

theorem seq_any (i : Int) (w : World) :
    Calls Tryd.prog 32 #[.int .i64 i] w fun e w' => e = .returned (.int .u16 (i % 65536)) ∧ w = w' := by
  go_enter Tryd.func32, Tryd.ntmps32
  go_wp2
  go_ret
  exact ⟨ret_num (wrap_u16_ i), rfl⟩

theorem ahead_any (a b : Int) (w : World) (ha : 0 ≤ a) (ha' : a ≤ 65535) (hb : 0 ≤ b) (hb' : b ≤ 65535) :
    Calls Tryd.prog 55 #[.int .u16 a, .int .u16 b] w fun e w' => e = .returned (.int .i64 (aheadZ a b)) ∧ w = w' := by
  go_enter Tryd.func55, Tryd.ntmps55
  go_wp2
  go_ret
  exact ⟨ret_num (ahead_eq a b), rfl⟩

theorem likely_neg (h s : Int) (hh : h < 0) : likely h s = s := by simp [likely, hh]
theorem likely_hi (h s : Int) (hh : 0 ≤ h) (hd : h < aheadZ s h) : likely h s = h - aheadZ s h + 65536 := by
  simp only [likely, show ¬ h < 0 by omega, if_false, hd, if_true]
theorem likely_in (h s : Int) (hh : 0 ≤ h) (hd : aheadZ s h ≤ h) : likely h s = h - aheadZ s h := by
  simp only [likely, show ¬ h < 0 by omega, show ¬ h < aheadZ s h by omega, if_false]

theorem index_any (h s : Int) (w : World) (hl : -9223372036854775808 ≤ h) (hh : h ≤ 4611686018427387904) (hs : 0 ≤ s) (hs' : s ≤ 65535) :
    Calls Tryd.prog 37 #[.int .i64 h, .int .u16 s] w fun e w' => e = .returned (.int .i64 (likely h s)) ∧ w = w' := by
  by_cases h0 : h < 0
  · rw [likely_neg h s h0]
    go_enter Tryd.func37, Tryd.ntmps37
    go_wp2
    go_ret
    exact ⟨rfl, rfl⟩
  have h0' : 0 ≤ h := by omega
  clear h0
  obtain ⟨d, hd⟩ : ∃ d, d = aheadZ s h := ⟨_, rfl⟩
  have hb := aheadZ_bd s h
  have hm := ahead_mod s h
  have HI := likely_hi h s h0'
  have HN := likely_in h s h0'
  rw [← hd] at hb hm HI HN
  clear hd
  have HM := Lib.hid hm
  clear hm
  have HA : ∀ w, Calls Tryd.prog 55 #[.int .u16 s, .int .u16 (h % 65536)] w fun e w' => e = .returned (.int .i64 d) ∧ w = w' := fun w => by
    have := ahead_any s (h % 65536) w hs hs' (by omega) (by omega)
    rw [HM.out] at this
    exact this
  have HA' := Lib.hid HA
  clear HA HM
  by_cases hc : h < d
  · rw [HI hc]
    clear HI HN
    go_enter Tryd.func37, Tryd.ntmps37
    go_wp2_with (first
      | (go_at_call 32; refine (seq_any _ _).mono ?_; rintro e w' ⟨rfl, rfl⟩)
      | (go_at_call 55; refine (Hid.out HA' _).mono ?_; rintro e w' ⟨rfl, rfl⟩))
    go_ret
    exact ⟨rfl, rfl⟩
  · have hc' : d ≤ h := by omega
    rw [HN hc']
    clear HI HN hc
    have hq : h - 9223372036854775807 ≤ d := by omega
    go_enter Tryd.func37, Tryd.ntmps37
    go_wp2_with (first
      | (go_at_call 32; refine (seq_any _ _).mono ?_; rintro e w' ⟨rfl, rfl⟩)
      | (go_at_call 55; refine (Hid.out HA' _).mono ?_; rintro e w' ⟨rfl, rfl⟩))
    go_ret
    exact ⟨rfl, rfl⟩
end Go.Proofs.YtmkeioeodlidgaaDoor

namespace Go.Proofs.YtmkeioeodlidgaaDoor
set_option linter.unusedVariables false

/-- A way: its keys, how often it may be used, how often it was, of each source the indices that were there. -/
structure Wy where
  key : List UInt8
  auth : List UInt8
  salt : List UInt8
  limit : Int
  used : Int
  ws : List (Nat × List Int)
def Wy.fit (s : Wy) : Prop := s.key.length = 16 ∧ s.auth.length = 20 ∧ s.salt.length = 14 ∧ (-9223372036854775808 ≤ s.limit ∧ s.limit ≤ 9223372036854775807) ∧ 0 ≤ s.used ∧ s.ws.length ≤ 8 ∧ ∀ x ∈ s.ws, x.1 < 4294967296
/-- A source's indices. -/
def lookW : List (Nat × List Int) → Nat → Option (List Int)
  | [], _ => none
  | (n, L) :: r, x => if n = x then some L else lookW r x
def putY : List (Nat × List Int) → Nat → List Int → List (Nat × List Int)
  | [], x, L => [(x, L)]
  | (n, M) :: r, x, L => if n = x then (n, L) :: r else (n, M) :: putY r x L
def highW (ws : List (Nat × List Int)) (x : Nat) : Int := match lookW ws x with
  | none => -1
  | some L => hiL L
/-- The tag of ciphered bytes, by an index. -/
def tagW (s : Wy) (b : List UInt8) (i : Nat) : List UInt8 := (macFull s.auth (b ++ beb 4 (i / 65536))).take 10
/-- Bytes of which those behind the first h are ciphered. -/
def turnW (s : Wy) (b : List UInt8) (h so i : Nat) : List UInt8 := b.take h ++ cph s.key (firstC s.salt so i) (b.drop h)
def sealB (s : Wy) (b : List UInt8) (h so i : Nat) : List UInt8 := turnW s b h so i ++ tagW s (turnW s b h so i) i
/-- May a packet be sealed by an index? -/
def mayW (p : Pkt) (i : Int) : Prop := mayB p ∧ 0 ≤ i ∧ i < 281474976710656 ∧ i % 65536 = (p.sq : Int) ∧ (wrB p).length ≤ 1190
/-- Why a packet isn't sealed (0: it is). -/
noncomputable def whySeal (s : Wy) (p : Pkt) (i : Int) : Int := open Classical in if s.limit ≤ s.used then 7 else if ¬ mayW p i then 1 else 0
def Wy.once (s : Wy) : Wy := { s with used := s.used + 1 }
/-- Why ciphered bytes aren't seen (0: they are). -/
def whyPeek (b : List UInt8) : Int :=
  if 1200 < b.length then 3 else if b.length < 22 then 2 else if bt b 0 / 64 ≠ 2 then 3 else if b.length - 10 < at1 b then 2 else 0
/-- The index that ciphered bytes likely have. -/
def idxW (s : Wy) (b : List UInt8) : Int := likely (highW s.ws (soN b)) (sqN b : Int)
def plainW (s : Wy) (b : List UInt8) : List UInt8 := turnW s (b.take (b.length - 10)) (at1 b) (soN b) (idxW s b).toNat
/-- Why ciphered bytes turn nothing (0: they do). -/
def whyOpen (s : Wy) (b : List UInt8) : Int :=
  if whyPeek b ≠ 0 then whyPeek b
  else if s.limit ≤ s.used then 7
  else if lookW s.ws (soN b) = none ∧ 8 ≤ s.ws.length then 6
  else if 281474976710656 ≤ idxW s b then 3
  else if ∃ L, lookW s.ws (soN b) = some L ∧ frL L (idxW s b) = false then 5
  else if tagW s (b.take (b.length - 10)) (idxW s b).toNat ≠ b.drop (b.length - 10) then 4
  else 0
end Go.Proofs.YtmkeioeodlidgaaDoor

namespace Go.Proofs.YtmkeioeodlidgaaDoor
open Go.RowKit
set_option linter.unusedVariables false

theorem u8_infoR : (Tryd.prog.info? 5).map (fun i => (i.zero, i.size, i.bytes)) = some (some (.int .u8 0), 1, 1) := by kernel_rfl

/-- Are n bytes there? -/
def thereB (nb : Nat) (a n : Int) : Bool := decide (1 ≤ n ∧ n ≤ 8 ∧ 0 ≤ a ∧ a ≤ (nb : Int) - n)

theorem rnum_yes (A : Option Addr) (nb c : Nat) (bs : List UInt8) (p m : Nat) (w : World) (hr : RdS w A nb c bs) (h1 : 1 ≤ m) (h2 : m ≤ 8) (h3 : p + m ≤ nb) :
    Calls Tryd.prog 15 #[.slice A nb c, .int .i64 p, .int .i64 m] w fun e w' => e = .returned (.int .u64 (numb ((bs.drop p).take m))) ∧ w = w' := by
  have hs := hr.small
  have hlen := hr.len
  obtain ⟨b, off, rfl, hlt, hc⟩ := hr.2.2.2.2 (by omega)
  clear hr
  obtain ⟨L, hL⟩ : ∃ L, L = (bs.drop p).take m := ⟨_, rfl⟩
  have hLl : L.length = m := by rw [hL]; simp; omega
  have hLc : ∀ k, k < m → w.cell? ⟨b, off + (p + m - 1 - k), none⟩ = some (.int .u8 ((L.getD (m - 1 - k) 0).toNat : Int)) := fun k hk => by
    have : L.getD (m - 1 - k) 0 = bs.getD (p + (m - 1 - k)) 0 := by
      rw [hL]
      simp [List.getD, show m - 1 - k < m by omega]
    rw [this, show p + m - 1 - k = p + (m - 1 - k) by omega]
    exact hc _ (by omega)
  rw [← hL]
  have HL := Lib.hid hL
  clear hL hc hlen
  go_enter Tryd.func15, Tryd.ntmps15
  go_wp2
  go_loop [7, 8, 9] (fun x q i => ∃ k : Nat, k ≤ m ∧ i = .int .i64 ((p : Int) + m - 1 - k) ∧ x = .int .u64 (numb (L.drop (m - k))) ∧ q = .int .u64 (powW k)) (fun _ _ i => (intOf i + 1 - p).toNat)
  case atStart => exact ⟨0, by omega, by go_num, by simp [numb, ← hLl], by rfl⟩
  case round =>
    obtain ⟨k, hk, rfl, rfl, rfl⟩ := hrel
    by_cases hlt : k < m
    · have hcell := hLc k hlt
      obtain ⟨y, hy⟩ : ∃ y : Int, y = ((L.getD (m - 1 - k) 0).toNat : Int) := ⟨_, rfl⟩
      have hy0 : 0 ≤ y ∧ y ≤ 255 := by have := (L.getD (m - 1 - k) 0).toNat_lt; omega
      have HS := Lib.hid (rnum_step L m k hLl hlt h2 y hy)
      have HP := Lib.hid (powW_step k)
      rw [← hy] at hcell
      clear hy hLc
      go_wp2
      go_round
      case rel => exact ⟨k + 1, by omega, by go_num, by rw [HS.out], by rw [HP.out]⟩
      case measure => simp [intOf]; omega
    · have hkm : k = m := by omega
      subst hkm
      have e0 : L.drop (k - k) = L := by simp
      rw [e0]
      clear e0 hLc
      go_wp2
      go_ret
      exact ⟨rfl, rfl⟩

/-- What a function that makes bytes leaves: the bytes in a row of its own, and nothing below turned. -/
def Made (w : World) (bs : List UInt8) (e : Ending) (w' : World) : Prop :=
  ∃ v, e = .returned v ∧ w'.ownsRow w.heap.size 5 1 v bs.length (cells bs) ∧ Below w.heap.size w w'

theorem own_empty (w : World) : (w.alloc (.cells #[] 5)).ownsRow w.heap.size 5 1 (.slice (some ⟨w.heap.size, 0, none⟩) 0 0) 0 (cells []) :=
  World.ownsRow_lit w #[] 0 (Nat.le_refl _) (by simp) rfl

/-- Behind the append onto an empty row of the call's own. -/
theorem own_first {w w1 : World} {v1 : Value} {nb : Nat} {bs : List UInt8} (hl : bs.length = nb) (h : w1.ownsRow w.heap.size 5 1 v1 (0 + nb) (cells ([] ++ bs)))
    (hg : (w.alloc (.cells #[] 5)).grownBy w1 (Value.ownBlock (.slice (some ⟨w.heap.size, 0, none⟩) 0 0))) :
    w1.ownsRow w.heap.size 5 1 v1 nb (cells bs) ∧ Below w.heap.size w w1 :=
  ⟨by simpa using h, ((Below.refl _ _).alloc (Nat.le_refl _) _).grown hg (by simp) (fun k hk => by simp [Value.ownBlock] at hk; omega)⟩

theorem rd_zero (w : World) : RdS (w.alloc (.cells #[.int .u8 0] 5)) (some ⟨w.heap.size, 0, none⟩) 1 1 [0] :=
  (show Blk (w.alloc (.cells #[.int .u8 0] 5)) w.heap.size 5 [0] from Blk.new w _ [0]).rd rfl (Nat.le_refl _) (by simp [maxLen])

/-- The length in a slot. -/
def lenOf : Value → Nat
  | .slice _ n _ => n
  | _ => 0

end Go.Proofs.YtmkeioeodlidgaaDoor

namespace Go.Proofs.YtmkeioeodlidgaaDoor
open Go.RowKit
set_option linter.unusedVariables false

theorem grown_then {w w2 w3 : World} {g : Nat} {row : Option Nat} (h : w.grownBy w2 (some g)) (k : w2.grownBy w3 row) (hr : ∀ p, row = some p → w.heap.size ≤ p ∨ p = g) : w.grownBy w3 (some g) :=
  ⟨k.os.trans h.os, k.tape.trans h.tape, k.output.trans h.output, Nat.le_trans h.size k.size, fun i hi hne => (k.block i (Nat.lt_of_lt_of_le hi h.size) (fun e => by
    rcases hr i e.symm with h2 | h2
    · omega
    · exact hne (by rw [h2]))).trans (h.block i hi hne)⟩
theorem grown_self (w : World) (r : Option Nat) : w.grownBy w r := grown_of_below (Below.refl _ _) r
theorem grown_alloc (w : World) (o : Obj) (r : Option Nat) : w.grownBy (w.alloc o) r := grown_of_below ((Below.refl _ _).alloc (Nat.le_refl _) _) r
/-- What a slice of e, of the type t, is told of: an element has sz cells. -/
def ElT (e t : TypeId) (sz : Nat) : Prop := ∃ (i : TypeInfo) (z : Value), Tryd.prog.underlying t = some (.slice e) ∧ Tryd.prog.info? e = some i ∧ i.zero = some z ∧ i.size = sz ∧ i.bytes ≤ 400 ∧ z.cells.size = sz ∧ 0 < sz
theorem elT {e t : TypeId} {sz by8 : Nat} {z : Value} (hu : Tryd.prog.underlying t = some (.slice e)) (h : (Tryd.prog.info? e).map (fun i => (i.zero, i.size, i.bytes)) = some (some z, sz, by8)) (h8 : by8 ≤ 400) (hz : z.cells.size = sz) (h0 : 0 < sz) : ElT e t sz := by
  generalize hp : Tryd.prog.info? e = p at h
  cases p with
  | none => cases h
  | some i =>
    simp only [Option.map_some, Option.some.injEq, Prod.mk.injEq] at h
    exact ⟨i, z, hu, hp, h.1, h.2.1, by omega, hz, h0⟩
/-- One element is put behind elements of the call's own. -/
theorem wpList_appV {w : World} {ops : Array Oper} {rest : List Oper} {o : Oper} {a : Act} {Q : Exit → Act → World → Prop} (hgd : o.guard = none) (s y : Operand) {t e : TypeId} {sz : Nat} (hE : ElT e t sz)
    (ho : o.op = .call { callee := .builtin .append, args := #[s, y], argTypes := #[t, t] })
    (base : Nat) (v : Value) (n : Nat) (xs : List Value) (hs : a.eval s = v) (hown : w.ownsRow base e sz v n xs) (g : Nat) (hy : a.eval y = .slice (some ⟨g, 0, none⟩) 1 1) (row : List Value) (hrow : row.length = sz) (h1 : ∀ u ∈ row, u.oneCell' = true) {e' : TypeId} (hB : BlkV w g e' row) (hn : n ≤ 1000000) (hbase : base ≤ w.heap.size)
    (h : ∀ v' w', w'.ownsRow base e sz v' (n + 1) (xs ++ row) → w.grownBy w' v.ownBlock → (v'.ownBlock = v.ownBlock ∨ v'.ownBlock = some w.heap.size) → wpList Tryd.prog ops Q rest (a.put o.dst v') w') : wpList Tryd.prog ops Q (o :: rest) a w := by
  obtain ⟨i, z, hu, hi, hz, hsz, hby, hzs, h0⟩ := hE
  refine wpList_append_own_at w hgd s y t ho base e i z sz i.bytes hu hi hz hsz rfl hzs h0 v n xs hs hown ⟨g, 0, none⟩ 1 1 row hy (by omega) ?_ h1 (by simp [maxLen]; omega) ?_ hbase (fun v' w' h1 h2 _ h4 => h v' w' h1 h2 h4)
  · intro j u hj
    rw [add_lit, Nat.zero_add, hB.cell j]
    exact hj
  · have : (n + 1) * i.bytes ≤ 1000001 * 400 := Nat.mul_le_mul (by omega) hby
    omega
theorem wp_appV {w : World} {o : Oper} {a : Act} {K : Act → World → Prop} {Q : Exit → Act → World → Prop} (s y : Operand) {t e : TypeId} {sz : Nat} (hE : ElT e t sz)
    (ho : o.op = .call { callee := .builtin .append, args := #[s, y], argTypes := #[t, t] })
    (base : Nat) (v : Value) (n : Nat) (xs : List Value) (hs : a.eval s = v) (hown : w.ownsRow base e sz v n xs) (g : Nat) (hy : a.eval y = .slice (some ⟨g, 0, none⟩) 1 1) (row : List Value) (hrow : row.length = sz) (h1 : ∀ u ∈ row, u.oneCell' = true) {e' : TypeId} (hB : BlkV w g e' row) (hn : n ≤ 1000000) (hbase : base ≤ w.heap.size)
    (h : ∀ v' w', w'.ownsRow base e sz v' (n + 1) (xs ++ row) → w.grownBy w' v.ownBlock → (v'.ownBlock = v.ownBlock ∨ v'.ownBlock = some w.heap.size) → K (a.put o.dst v') w') : o.wp Tryd.prog a w K Q := by
  obtain ⟨i, z, hu, hi, hz, hsz, hby, hzs, h0⟩ := hE
  have hx : (n + 1) * i.bytes ≤ 1000001 * 400 := Nat.mul_le_mul (by omega) hby
  obtain ⟨v', w', hr, h2, h3, h4, h5⟩ := run_append_own_at (P := Tryd.prog) w base t o.type e i z sz i.bytes hu hi hz hsz rfl hzs h0 v n xs hown ⟨g, 0, none⟩ 1 1 row (by omega) (by
    intro j u hj
    rw [add_lit, Nat.zero_add, hB.cell j]
    exact hj) h1 (by simp [maxLen]; omega) (by omega) hbase
  unfold Oper.wp execOp
  simp only [ho, resolve, invoke, builtin, Sem.run_bind, Sem.run_pure, Result.andThen_ok, List.map_toArray, List.map_cons, List.map_nil, hs, hy, hr]
  exact h _ _ h2 h3 h5
theorem own_formN {w : World} {base : Nat} {e : TypeId} {sz : Nat} {v : Value} {n : Nat} {xs : List Value} (h : w.ownsRow base e sz v n xs) : ∃ A c, v = .slice A n c := by
  rcases h.2 with ⟨rfl, rfl⟩ | ⟨g, cap, cur, rfl, _⟩
  · exact ⟨none, 0, rfl⟩
  · exact ⟨_, cap, rfl⟩
theorem own_moN {w : World} {base base' n s : Nat} {e : TypeId} {v : Value} {xs : List Value} (h : w.ownsRow base e s v n xs) (hb : base' ≤ base) : w.ownsRow base' e s v n xs := by
  refine ⟨h.1, ?_⟩
  rcases h.2 with h2 | ⟨g, cap, cur, hv, hb2, h3⟩
  · exact .inl h2
  · exact .inr ⟨g, cap, cur, hv, Nat.le_trans hb hb2, h3⟩
theorem own_thN {w w' : World} {base n s : Nat} {e : TypeId} {v : Value} {xs : List Value} (h : w.ownsRow base e s v n xs) {row : Option Nat} (hg : w.grownBy w' row) (hr : ∀ p, row = some p → p < base ∨ ∃ (cur : Array Value) (e' : TypeId) (fz : Nat × Nat), w.heap[p]? = some (.cells cur e' fz) ∧ e ≠ e') : w'.ownsRow base e s v n xs := by
  refine h.kept hg ?_
  rcases hq : v.ownBlock with _ | p
  · exact .inl rfl
  · refine .inr fun hp => ?_
    rcases hr p hp.symm with h1 | ⟨cur, e', fz, h2, h3⟩
    · have := (h.lt p hq).1; omega
    · rcases h.2 with ⟨rfl, _⟩ | ⟨g, cap, cu2, rfl, _, hg2, _⟩
      · simp [Value.ownBlock] at hq
      · simp [Value.ownBlock] at hq
        subst hq
        rw [h2] at hg2
        simp at hg2
        exact h3 hg2.2.1.symm
theorem own_ne {w : World} {base s n p : Nat} {e e' : TypeId} {v : Value} {xs cs : List Value} (h : w.ownsRow base e s v n xs) (hB : BlkV w p e' cs) (hne : e ≠ e') : v.ownBlock ≠ some p := by
  intro hq
  rcases h.2 with ⟨rfl, _⟩ | ⟨g, cap, cur, rfl, _, hg, _⟩
  · simp [Value.ownBlock] at hq
  · simp [Value.ownBlock] at hq
    subst hq
    rw [hB] at hg
    simp at hg
    exact hne hg.2.symm
theorem vals_at {α β : Type} (f : α → List β) {L : List α} {k : Nat} (h : k < L.length) : (L.take (k + 1)).flatMap f = (L.take k).flatMap f ++ f L[k] := by
  rw [List.take_add_one, List.getElem?_eq_getElem h, List.flatMap_append]
  simp only [Option.toList, List.flatMap_cons, List.flatMap_nil, List.append_nil]
/-- A slice of elements of sz cells each reads as these rows. -/
def RdG (sz : Nat) (w : World) (A : Option Addr) (rows : List (List Value)) : Prop := (∀ r ∈ rows, r.length = sz) ∧ (0 < rows.length → ∃ b off, A = some ⟨b, off, none⟩ ∧ b < w.heap.size ∧ ∀ j, j < rows.length → ∀ d, d < sz → w.cell? ⟨b, off + j * sz + d, none⟩ = (rows.getD j [])[d]?)
theorem RdG.below {sz : Nat} {w w' : World} {A : Option Addr} {rows : List (List Value)} (h : RdG sz w A rows) (hb : Below w.heap.size w w') : RdG sz w' A rows := by
  refine ⟨h.1, fun hn => ?_⟩
  obtain ⟨b, off, hA, hlt, hc⟩ := h.2 hn
  exact ⟨b, off, hA, Nat.lt_of_lt_of_le hlt hb.size, fun j hj d hd => (hb.cell (p := ⟨b, off + j * sz + d, none⟩) hlt).trans (hc j hj d hd)⟩
/-- Where the k-th one lies, in every world that comes later. -/
theorem RdG.at_ {sz : Nat} {w : World} {A : Option Addr} {α : Type} {f : α → List Value} {L : List α} (h : RdG sz w A (L.map f)) {k : Nat} (hk : k < L.length) : ∃ b off, A = some ⟨b, off, none⟩ ∧ ∀ wx, Below w.heap.size w wx → wx.rangeAt b (off + k * sz) (f L[k]) := by
  obtain ⟨b, off, hA, hlt, hc⟩ := h.2 (by simp; omega)
  refine ⟨b, off, hA, fun wx hb d v hv => ?_⟩
  have hr : (L.map f).getD k [] = f L[k] := by simp [List.getD, hk]
  have hd : d < sz := by
    have h1 := h.1 (f L[k]) (List.mem_map.2 ⟨_, List.getElem_mem hk, rfl⟩)
    have := (List.getElem?_eq_some_iff.1 hv).1
    omega
  have := hc k (by simpa using hk) d hd
  rw [hr, hv] at this
  exact (hb.cell (p := ⟨b, off + k * sz + d, none⟩) hlt).trans this
/-- Bytes of the call's own, so far. -/
def BO (w0 w : World) (A : Option Addr) (n c : Nat) (bs : List UInt8) : Prop := w.ownsRow w0.heap.size 5 1 (.slice A n c) n (cells bs) ∧ Below w0.heap.size w0 w
theorem BO.nil (w : World) : BO w w none 0 0 [] := ⟨World.ownsRow_nil w _ _ _, Below.refl _ _⟩
theorem BO.rd {w0 w : World} {A : Option Addr} {n c : Nat} {bs : List UInt8} (h : BO w0 w A n c bs) : RdS w A n c bs := RdS.of_own h.1
theorem BO.below {w0 w w' : World} {A : Option Addr} {n c : Nat} {bs : List UInt8} (h : BO w0 w A n c bs) (hb : Below w.heap.size w w') : BO w0 w' A n c bs := ⟨own_thN h.1 (grown_of_below hb none) (fun p hp => by cases hp), h.2.trans (hb.mono h.2.size)⟩
theorem BO.len {w0 w : World} {A : Option Addr} {n c : Nat} {bs : List UInt8} (h : BO w0 w A n c bs) : bs.length = n := h.rd.len
/-- More bytes behind them. -/
theorem BO.more {w0 w w' : World} {A A' : Option Addr} {n c n' c' : Nat} {bs bs' : List UInt8} (h : BO w0 w A n c bs) (h1 : w'.ownsRow w0.heap.size 5 1 (.slice A' n' c') n' (cells bs')) (hg : w.grownBy w' (Value.slice A n c).ownBlock) : BO w0 w' A' n' c' bs' :=
  ⟨h1, h.2.grown hg h.2.size (fun p hp => (h.1.lt p hp).1)⟩
theorem put_bo (w0 w : World) (A : Option Addr) (n c N : Nat) (bs : List UInt8) (m x : Nat) (mi xi : Int) (hmi : mi = m) (hxi : xi = x) (hN : N = n + m) (h : BO w0 w A n c bs) (h1 : 1 ≤ m) (h8 : m ≤ 8) (hx : x < 18446744073709551616) (hs : n ≤ 1000000) :
    Calls Tryd.prog 29 #[.slice A n c, .int .i64 mi, .int .u64 xi] w fun e w' => ∃ A' c', e = .returned (.slice A' N c') ∧ BO w0 w' A' N c' (bs ++ beb m x) ∧ Below w.heap.size w w' := by
  subst hmi; subst hxi; subst hN
  refine (put_some A n c bs m x w h.rd h1 h8 hx (by omega)).mono ?_
  rintro e w' ⟨rfl, hB, hb⟩
  exact ⟨_, _, rfl, ⟨hB.owns (by rw [List.length_append, h.len, length_beb]) (by simp only [maxLen]; omega) h.2.size, h.2.trans (hb.mono h.2.size)⟩, hb⟩
theorem putNil_bo (w : World) (m x : Nat) (mi xi : Int) (hmi : mi = m) (hxi : xi = x) (h1 : 1 ≤ m) (h8 : m ≤ 8) (hx : x < 18446744073709551616) :
    Calls Tryd.prog 29 #[.slice none 0 0, .int .i64 mi, .int .u64 xi] w fun e w' => ∃ A' c', e = .returned (.slice A' m c') ∧ BO w w' A' m c' (beb m x) ∧ Below w.heap.size w w' :=
  (put_bo w w none 0 0 m [] m x mi xi hmi hxi (by omega) (BO.nil w) h1 h8 hx (by omega)).mono fun e w' ⟨A', c', h1, h2, h3⟩ => ⟨A', c', h1, h2, h3⟩
theorem flat_snoc {α : Type} (f : α → List UInt8) {L : List α} {k : Nat} (h : k < L.length) : (L.take (k + 1)).flatMap f = (L.take k).flatMap f ++ f L[k] := vals_at f h
theorem flat_row {α : Type} (f : α → List Value) (sz : Nat) : ∀ (L : List α) (j d : Nat), (∀ x ∈ L, (f x).length = sz) → d < sz → (L.flatMap f)[j * sz + d]? = ((L.map f).getD j [])[d]?
  | [], j, d, _, _ => by simp [List.getD]
  | a :: r, 0, d, h, hd => by
    have h1 := h a (by simp)
    simp only [List.flatMap_cons, Nat.zero_mul, Nat.zero_add, List.map_cons, List.getD_cons_zero]
    rw [List.getElem?_append_left (by omega)]
  | a :: r, j + 1, d, h, hd => by
    have h1 := h a (by simp)
    have ih := flat_row f sz r j d (fun x hx => h x (by simp [hx])) hd
    simp only [List.flatMap_cons, List.map_cons, List.getD_cons_succ]
    rw [List.getElem?_append_right (by rw [h1, Nat.succ_mul]; omega), ← ih, h1]
    congr 1
    rw [Nat.succ_mul]; omega
theorem RdG.of_own {w : World} {base n c sz : Nat} {e : TypeId} {A : Option Addr} {α : Type} {f : α → List Value} {L : List α} (h : w.ownsRow base e sz (.slice A n c) n (L.flatMap f)) (hn : L.length = n) (hf : ∀ x ∈ L, (f x).length = sz) : RdG sz w A (L.map f) := by
  refine ⟨fun r hr => by obtain ⟨x, hx, rfl⟩ := List.mem_map.1 hr; exact hf x hx, fun hp => ?_⟩
  rw [List.length_map, hn] at hp
  rcases h.2 with ⟨_, h0⟩ | ⟨g, cap, cur, hv, hb, hg, _⟩
  · omega
  · injection hv with h1 h2 h3
    subst h1; subst h3
    refine ⟨g, 0, rfl, (Array.getElem?_eq_some_iff.1 hg).1, fun j hj d hd => ?_⟩
    rw [List.length_map, hn] at hj
    rw [Nat.zero_add, ← flat_row f sz L j d hf hd]
    refine h.cellAt (j * sz + d) ?_
    have : (j + 1) * sz ≤ n * sz := Nat.mul_le_mul_right sz hj
    rw [Nat.succ_mul] at this
    omega
theorem RdG.none_ {α : Type} (f : α → List Value) (sz : Nat) (w : World) : RdG sz w none (([] : List α).map f) := ⟨by simp, by simp⟩
theorem size_alloc (w : World) (o : Obj) : w.heap.size + 1 = (w.alloc o).heap.size := by show _ = (w.heap.push o).size; simp
theorem own_blockN {w : World} {base s : Nat} {e : TypeId} {A : Option Addr} {n c : Nat} {xs : List Value} (h : w.ownsRow base e s (.slice A n c) n xs) (hn : 0 < n) : ∃ g, A = some ⟨g, 0, none⟩ ∧ base ≤ g := by
  rcases h.2 with ⟨_, h0⟩ | ⟨g, cap, cur, hv, hb, _⟩
  · omega
  · injection hv with h1 _ _
    exact ⟨g, h1, hb⟩
/-- A struct and a number handed back. -/
theorem ret_row2 {P : Program} {fn : Func} {R : Ending → World → Prop} {a : Act} {w : World} {p u : Tmp} {ty e : TypeId} {g : Nat} {cs : List Value} (h : fn.results = #[.cell p ty, .tmp u]) (hp : a.tmps.getD p undef = .pointer (some ⟨g, 0, none⟩))
    (hB : BlkV w g e cs) (hT : RowTy P ty cs.length) (hd : a.defers = []) (hR : R (.returned (.tuple #[.agg cs.toArray, a.tmps.getD u undef])) w) : bodyPost P fn R .ret a w := by
  obtain ⟨d, h1, h2, h3⟩ := hT
  refine bodyPost_ret (v := .tuple #[.agg cs.toArray, a.tmps.getD u undef]) ?_ hd hR
  rw [results_cell_tmp h, hp]
  simp only [asAddr, Sem.run_pure, Result.andThen]
  rw [run_loadVar_row w g e ty cs.toArray (0, 0) d hB h1 (by cases d <;> simp_all) (by simpa using h3)]
theorem ret_row3 {P : Program} {fn : Func} {R : Ending → World → Prop} {a : Act} {w : World} {p u v : Tmp} {ty e : TypeId} {g : Nat} {cs : List Value} (h : fn.results = #[.cell p ty, .tmp u, .tmp v]) (hp : a.tmps.getD p undef = .pointer (some ⟨g, 0, none⟩))
    (hB : BlkV w g e cs) (hT : RowTy P ty cs.length) (hd : a.defers = []) (hR : R (.returned (.tuple #[.agg cs.toArray, a.tmps.getD u undef, a.tmps.getD v undef])) w) : bodyPost P fn R .ret a w := by
  obtain ⟨d, h1, h2, h3⟩ := hT
  refine bodyPost_ret (v := .tuple #[.agg cs.toArray, a.tmps.getD u undef, a.tmps.getD v undef]) ?_ hd hR
  have hp' : a.tmps[p]?.getD undef = .pointer (some ⟨g, 0, none⟩) := by simpa using hp
  simp [results, h, hp', asAddr, run_loadVar_row w g e ty cs.toArray (0, 0) d hB h1 (by cases d <;> simp_all) (by simpa using h3)]
theorem twoB (w : World) (o : Obj) (cs : List Value) (e : TypeId) : BlkV ((w.alloc o).alloc (.cells cs.toArray e)) (w.heap.size + 1) e cs := by
  have h := BlkV.new (w.alloc o) e cs
  have : (w.alloc o).heap.size = w.heap.size + 1 := by show (w.heap.push o).size = _; simp
  rw [this] at h
  exact h
theorem twoBelow (w : World) (o o2 : Obj) : Below w.heap.size w ((w.alloc o).alloc o2) := ((Below.refl _ _).alloc (Nat.le_refl _) _).alloc (by show _ ≤ (w.heap.push o).size; simp) _
theorem res_two {P : Program} {fn : Func} {tmps : Array Value} {w : World} {p u : Tmp} {ty ty2 e : TypeId} {g g2 : Nat} {cs : List Value} {v : Value} {k : IntKind} (h : fn.results = #[.cell p ty, .cell u ty2]) (hp : tmps.getD p undef = .pointer (some ⟨g, 0, none⟩)) (hu : tmps.getD u undef = .pointer (some ⟨g2, 0, none⟩))
    (hB : BlkV w g e cs) (hT : RowTy P ty cs.length) (hc : w.cell? ⟨g2, 0, none⟩ = some v) (h2 : P.underlying ty2 = some (.int k)) : (results fn tmps).run P w = .ok (.tuple #[.agg cs.toArray, v]) w := by
  obtain ⟨d, h1, h2', h3⟩ := hT
  have hp' : tmps[p]?.getD undef = .pointer (some ⟨g, 0, none⟩) := by simpa using hp
  have hu' : tmps[u]?.getD undef = .pointer (some ⟨g2, 0, none⟩) := by simpa using hu
  have hl : (loadVar ty2 ⟨g2, 0, none⟩).run P w = .ok v w := by
    simp [loadVar, isAgg, run_underlying, h2, load, go_sem]
    simp [Sem.run, hc]
  simp [results, h, hp', hu', asAddr, run_loadVar_row w g e ty cs.toArray (0, 0) d hB h1 (by cases d <;> simp_all) (by simpa using h3), hl]
theorem ret_two {P : Program} {fn : Func} {R : Ending → World → Prop} {a : Act} {w : World} {p u : Tmp} {ty ty2 e : TypeId} {g g2 : Nat} {cs : List Value} {v : Value} {k : IntKind} (h : fn.results = #[.cell p ty, .cell u ty2]) (hp : a.tmps.getD p undef = .pointer (some ⟨g, 0, none⟩)) (hu : a.tmps.getD u undef = .pointer (some ⟨g2, 0, none⟩))
    (hB : BlkV w g e cs) (hT : RowTy P ty cs.length) (hc : w.cell? ⟨g2, 0, none⟩ = some v) (h2 : P.underlying ty2 = some (.int k)) (hd : a.defers = []) (hR : R (.returned (.tuple #[.agg cs.toArray, v])) w) : bodyPost P fn R .ret a w :=
  bodyPost_ret (res_two h hp hu hB hT hc h2) hd hR
end Go.Proofs.YtmkeioeodlidgaaDoor
