/- Several texts in one: plain words and walks. No statement is proved here. -/
import Derived.Test.YtheefckohnaceaaGreatDoorProg
import Derived.Test.YtheefckohnaceaaGreatDoorZBytes
import Derived.Test.YtheefckohnaceaaGreatDoorZNums
import Derived.KernelRfl
import Derived.Lib.Hide
import Derived.Test.YtheefckohnaceaaGreatDoorZM0
import Derived.Maps.AppendAt
import Derived.Test.YtheefckohnaceaaGreatDoorZM2
namespace Go.Proofs.YtheefckohnaceaaGreatDoor
open Go.RowKit
set_option linter.unusedVariables false

theorem u8_infoR : (Tryz.prog.info? 5).map (fun i => (i.zero, i.size, i.bytes)) = some (some (.int .u8 0), 1, 1) := by kernel_rfl

theorem rnum_yes (A : Option Addr) (nb c : Nat) (bs : List UInt8) (p m : Nat) (w : World) (hr : RdS w A nb c bs) (h1 : 1 ≤ m) (h2 : m ≤ 8) (h3 : p + m ≤ nb) :
 Calls Tryz.prog 68 #[.slice A nb c, .int .i64 p, .int .i64 m] w fun e w' => e = .returned (.int .u64 (numb ((bs.drop p).take m))) ∧ w = w' := by
 have hs := hr.small
 have hlen := hr.len
 obtain ⟨b, off, rfl, hlt, hc⟩ := hr.2.2.2.2 (by omega)
 clear hr
 obtain ⟨L, hL⟩ : ∃ L, L = (bs.drop p).take m := ⟨_, rfl⟩
 have hLl : L.length = m := by rw [hL]; simp; omega
 have hLc : ∀ k, k < m → w.cell? ⟨b, off + (p + m - 1 - k), none⟩ = some (.int .u8 ((L.getD (m - 1 - k) 0).toNat : Int)) := fun k hk => by
  have : L.getD (m - 1 - k) 0 = bs.getD (p + (m - 1 - k)) 0 := by
   rw [hL]
   simp [List.getD, show m - 1 - k < m by omega]
  rw [this, show p + m - 1 - k = p + (m - 1 - k) by omega]
  exact hc _ (by omega)
 rw [← hL]
 have HL := Lib.hid hL
 clear hL hc hlen
 go_enter Tryz.func68, Tryz.ntmps68
 go_wp2
 go_loop [7, 8, 9] (fun x q i => ∃ k : Nat, k ≤ m ∧ i = .int .i64 ((p : Int) + m - 1 - k) ∧ x = .int .u64 (numb (L.drop (m - k))) ∧ q = .int .u64 (powW k)) (fun _ _ i => (intOf i + 1 - p).toNat)
 case atStart => exact ⟨0, by omega, by go_num, by simp [numb, ← hLl], by rfl⟩
 case round =>
  obtain ⟨k, hk, rfl, rfl, rfl⟩ := hrel
  by_cases hlt : k < m
  · have hcell := hLc k hlt
    obtain ⟨y, hy⟩ : ∃ y : Int, y = ((L.getD (m - 1 - k) 0).toNat : Int) := ⟨_, rfl⟩
    have hy0 : 0 ≤ y ∧ y ≤ 255 := by have := (L.getD (m - 1 - k) 0).toNat_lt; omega
    have HS := Lib.hid (rnum_step L m k hLl hlt h2 y hy)
    have HP := Lib.hid (powW_step k)
    rw [← hy] at hcell
    clear hy hLc
    go_wp2
    go_round
    case rel => exact ⟨k + 1, by omega, by go_num, by rw [HS.out], by rw [HP.out]⟩
    case measure => simp [intOf]; omega
  · have hkm : k = m := by omega
    subst hkm
    have e0 : L.drop (k - k) = L := by simp
    rw [e0]
    clear e0 hLc
    go_wp2
    go_ret
    exact ⟨rfl, rfl⟩

def Made (w : World) (bs : List UInt8) (e : Ending) (w' : World) : Prop :=
 ∃ v, e = .returned v ∧ w'.ownsRow w.heap.size 5 1 v bs.length (cells bs) ∧ Below w.heap.size w w'

theorem own_empty (w : World) : (w.alloc (.cells #[] 5)).ownsRow w.heap.size 5 1 (.slice (some ⟨w.heap.size, 0, none⟩) 0 0) 0 (cells []) :=
 World.ownsRow_lit w #[] 0 (Nat.le_refl _) (by simp) rfl

theorem own_first {w w1 : World} {v1 : Value} {nb : Nat} {bs : List UInt8} (hl : bs.length = nb) (h : w1.ownsRow w.heap.size 5 1 v1 (0 + nb) (cells ([] ++ bs)))
 (hg : (w.alloc (.cells #[] 5)).grownBy w1 (Value.ownBlock (.slice (some ⟨w.heap.size, 0, none⟩) 0 0))) :
 w1.ownsRow w.heap.size 5 1 v1 nb (cells bs) ∧ Below w.heap.size w w1 :=
 ⟨by simpa using h, ((Below.refl _ _).alloc (Nat.le_refl _) _).grown hg (by simp) (fun k hk => by simp [Value.ownBlock] at hk; omega)⟩

theorem rput_some (A : Option Addr) (nb c : Nat) (bs : List UInt8) (m x : Nat) (w : World) (hr : RdS w A nb c bs) (h1 : 1 ≤ m) (h2 : m ≤ 8) (hx : x < 18446744073709551616) (hs : nb ≤ 1073741823) :
 Calls Tryz.prog 67 #[.slice A nb c, .int .i64 m, .int .u64 x] w (Made w (bs ++ beb m x)) := by
 have hl := hr.len
 have hmk := run_makeB (P := Tryz.prog) Tryz.underlying32 u8_infoR .i64 .i64 (m : Int) (m : Int) m rfl rfl (by omega)
 go_enter Tryz.func67, Tryz.ntmps67
 go_wp2_with (at_builtin; refine wpList_append_rd _ rfl (.tmp 10) (.tmp 11) rfl Tryz.underlying32 u8_infoR w.heap.size (.slice (some ⟨w.heap.size, 0, none⟩) 0 0) 0 [] rfl (own_empty w) A nb c bs rfl (hr.below ((Below.refl _ _).alloc (Nat.le_refl _) _)) (by omega) (by simp) ?_; intro v1 w1 hown1 hg1 hat1)
 obtain ⟨ho, hb⟩ := own_first hl hown1 hg1
 have hltb := ho.lt
 clear hown1 hg1 hat1
 go_loopw [2, 9] (fun y i wr => ∃ k X : Nat, k ≤ m ∧ X ≤ x ∧ i = .int .i64 ((m : Int) - 1 - k) ∧ y = .int .u64 X ∧ Hid (X = x / 256 ^ k) ∧ wr.ownsRow w.heap.size 5 1 v1 nb (cells bs) ∧ Blk wr w1.heap.size 5 (fillB [] (beb m x) m k) ∧ Below w.heap.size w wr) (fun _ i _ => (intOf i + 1).toNat)
 case atStart => exact ⟨0, x, by omega, Nat.le_refl _, by go_num, rfl, Lib.hid (by simp), ho.alloc _, by rw [fillB_zero _ _ _ (length_beb _ _)]; exact Blk.new _ _ _, hb.alloc hb.size _⟩
 case round =>
  obtain ⟨k, X, hk, hXx, rfl, rfl, hX, hor, hBr, hbr⟩ := hrel
  by_cases hlt : k < m
  · have hcell := hBr.cell (j := m - 1 - k) (by rw [length_fillB _ _ _ _ (length_beb _ _)]; simp; omega)
    have hfr := hBr.frozen (m - 1 - k)
    have hst : Blk (wr.setCell ⟨w1.heap.size, m - 1 - k, none⟩ (.int .u8 ((X : Int) % 256))) w1.heap.size 5 (fillB [] (beb m x) m (k + 1)) := by
     rw [byte_mod, ← fillB_step [] (beb m x) m k (length_beb _ _) hlt (UInt8.ofNat X) (by rw [beb_at _ _ _ (by omega), hX.out]; congr 3; omega)]
     have h3 := hBr.set_ (m - 1 - k) (UInt8.ofNat X)
     simpa only [List.length_nil, Nat.zero_add] using h3
    have hbs := hbr.setCell (p := ⟨w1.heap.size, m - 1 - k, none⟩) hb.size (.int .u8 ((X : Int) % 256))
    have hos := hor.kept (row := some w1.heap.size) (w' := wr.setCell ⟨w1.heap.size, m - 1 - k, none⟩ (.int .u8 ((X : Int) % 256))) ⟨rfl, rfl, rfl, by simp [World.setCell], fun i _ hi => Below.heap_setCell _ _ _ _ (fun e => hi (by rw [e]))⟩ (by
     rcases hv : v1.ownBlock with _ | q
     · exact .inl rfl
     · refine .inr fun e => ?_
       have := (hltb q hv).2
       injection e with e
       omega)
    have hX2 : Hid (X / 256 = x / 256 ^ (k + 1)) := Lib.hid (by rw [hX.out, div_pow_step])
    have hXl : X / 256 ≤ x := by omega
    obtain ⟨u, hu⟩ : ∃ u : Value, u = (.int .u8 (((fillB [] (beb m x) m k).getD (m - 1 - k) 0).toNat : Int)) := ⟨_, rfl⟩
    rw [← hu] at hcell
    clear hu hltb
    go_wp2
    go_roundw
    case rel => exact ⟨k + 1, X / 256, by omega, hXl, by go_num, by go_num, hX2, hos, hst, hbs⟩
    case measure => simp [intOf]; omega
  · obtain rfl : k = m := by omega
    rw [fillB_all, List.nil_append] at hBr
    clear hltb
    go_wp2_with (at_builtin; refine wpList_append_rd _ rfl (.tmp 36) (.tmp 37) rfl Tryz.underlying32 u8_infoR w.heap.size v1 nb bs rfl hor (some ⟨w1.heap.size, 0, none⟩) k k (beb k x) rfl (hBr.rd (length_beb _ _) (Nat.le_refl _) (by simp [maxLen]; omega)) (by omega) hbr.size ?_; intro v2 w2 hown2 hg2 hat2)
    go_ret
    exact ⟨v2, rfl, by rw [List.length_append, length_beb, hl]; exact hown2, hbr.grown hg2 hbr.size (fun q hq => (hor.lt q hq).1)⟩

def lenOf : Value → Nat
 | .slice _ n _ => n
 | _ => 0

theorem grown_then {w w2 w3 : World} {g : Nat} {row : Option Nat} (h : w.grownBy w2 (some g)) (k : w2.grownBy w3 row) (hr : ∀ p, row = some p → w.heap.size ≤ p ∨ p = g) : w.grownBy w3 (some g) :=
 ⟨k.os.trans h.os, k.tape.trans h.tape, k.output.trans h.output, Nat.le_trans h.size k.size, fun i hi hne => (k.block i (Nat.lt_of_lt_of_le hi h.size) (fun e => by
  rcases hr i e.symm with h2 | h2
  · omega
  · exact hne (by rw [h2]))).trans (h.block i hi hne)⟩
theorem grown_self (w : World) (r : Option Nat) : w.grownBy w r := grown_of_below (Below.refl _ _) r
theorem grown_alloc (w : World) (o : Obj) (r : Option Nat) : w.grownBy (w.alloc o) r := grown_of_below ((Below.refl _ _).alloc (Nat.le_refl _) _) r
def ElT (e t : TypeId) (sz : Nat) : Prop := ∃ (i : TypeInfo) (z : Value), Tryz.prog.underlying t = some (.slice e) ∧ Tryz.prog.info? e = some i ∧ i.zero = some z ∧ i.size = sz ∧ i.bytes ≤ 400 ∧ z.cells.size = sz ∧ 0 < sz
theorem elT {e t : TypeId} {sz by8 : Nat} {z : Value} (hu : Tryz.prog.underlying t = some (.slice e)) (h : (Tryz.prog.info? e).map (fun i => (i.zero, i.size, i.bytes)) = some (some z, sz, by8)) (h8 : by8 ≤ 400) (hz : z.cells.size = sz) (h0 : 0 < sz) : ElT e t sz := by
 generalize hp : Tryz.prog.info? e = p at h
 cases p with
 | none => cases h
 | some i =>
   simp only [Option.map_some, Option.some.injEq, Prod.mk.injEq] at h
   exact ⟨i, z, hu, hp, h.1, h.2.1, by omega, hz, h0⟩
theorem wpList_appV {w : World} {ops : Array Oper} {rest : List Oper} {o : Oper} {a : Act} {Q : Exit → Act → World → Prop} (hgd : o.guard = none) (s y : Operand) {t e : TypeId} {sz : Nat} (hE : ElT e t sz)
 (ho : o.op = .call { callee := .builtin .append, args := #[s, y], argTypes := #[t, t] })
 (base : Nat) (v : Value) (n : Nat) (xs : List Value) (hs : a.eval s = v) (hown : w.ownsRow base e sz v n xs) (g : Nat) (hy : a.eval y = .slice (some ⟨g, 0, none⟩) 1 1) (row : List Value) (hrow : row.length = sz) (h1 : ∀ u ∈ row, u.oneCell' = true) {e' : TypeId} (hB : BlkV w g e' row) (hn : n ≤ 1000000) (hbase : base ≤ w.heap.size)
 (h : ∀ v' w', w'.ownsRow base e sz v' (n + 1) (xs ++ row) → w.grownBy w' v.ownBlock → (v'.ownBlock = v.ownBlock ∨ v'.ownBlock = some w.heap.size) → wpList Tryz.prog ops Q rest (a.put o.dst v') w') : wpList Tryz.prog ops Q (o :: rest) a w := by
 obtain ⟨i, z, hu, hi, hz, hsz, hby, hzs, h0⟩ := hE
 refine wpList_append_own_at w hgd s y t ho base e i z sz i.bytes hu hi hz hsz rfl hzs h0 v n xs hs hown ⟨g, 0, none⟩ 1 1 row hy (by omega) ?_ h1 (by simp [maxLen]; omega) ?_ hbase (fun v' w' h1 h2 _ h4 => h v' w' h1 h2 h4)
 · intro j u hj
   rw [add_lit, Nat.zero_add, hB.cell j]
   exact hj
 · have : (n + 1) * i.bytes ≤ 1000001 * 400 := Nat.mul_le_mul (by omega) hby
   omega
theorem own_formN {w : World} {base : Nat} {e : TypeId} {sz : Nat} {v : Value} {n : Nat} {xs : List Value} (h : w.ownsRow base e sz v n xs) : ∃ A c, v = .slice A n c := by
 rcases h.2 with ⟨rfl, rfl⟩ | ⟨g, cap, cur, rfl, _⟩
 · exact ⟨none, 0, rfl⟩
 · exact ⟨_, cap, rfl⟩
theorem own_moN {w : World} {base base' n s : Nat} {e : TypeId} {v : Value} {xs : List Value} (h : w.ownsRow base e s v n xs) (hb : base' ≤ base) : w.ownsRow base' e s v n xs := by
 refine ⟨h.1, ?_⟩
 rcases h.2 with h2 | ⟨g, cap, cur, hv, hb2, h3⟩
 · exact .inl h2
 · exact .inr ⟨g, cap, cur, hv, Nat.le_trans hb hb2, h3⟩
theorem own_thN {w w' : World} {base n s : Nat} {e : TypeId} {v : Value} {xs : List Value} (h : w.ownsRow base e s v n xs) {row : Option Nat} (hg : w.grownBy w' row) (hr : ∀ p, row = some p → p < base ∨ ∃ (cur : Array Value) (e' : TypeId) (fz : Nat × Nat), w.heap[p]? = some (.cells cur e' fz) ∧ e ≠ e') : w'.ownsRow base e s v n xs := by
 refine h.kept hg ?_
 rcases hq : v.ownBlock with _ | p
 · exact .inl rfl
 · refine .inr fun hp => ?_
   rcases hr p hp.symm with h1 | ⟨cur, e', fz, h2, h3⟩
   · have := (h.lt p hq).1; omega
   · rcases h.2 with ⟨rfl, _⟩ | ⟨g, cap, cu2, rfl, _, hg2, _⟩
     · simp [Value.ownBlock] at hq
     · simp [Value.ownBlock] at hq
       subst hq
       rw [h2] at hg2
       simp at hg2
       exact h3 hg2.2.1.symm
theorem own_ne {w : World} {base s n p : Nat} {e e' : TypeId} {v : Value} {xs cs : List Value} (h : w.ownsRow base e s v n xs) (hB : BlkV w p e' cs) (hne : e ≠ e') : v.ownBlock ≠ some p := by
 intro hq
 rcases h.2 with ⟨rfl, _⟩ | ⟨g, cap, cur, rfl, _, hg, _⟩
 · simp [Value.ownBlock] at hq
 · simp [Value.ownBlock] at hq
   subst hq
   rw [hB] at hg
   simp at hg
   exact hne hg.2.symm
theorem vals_at {α β : Type} (f : α → List β) {L : List α} {k : Nat} (h : k < L.length) : (L.take (k + 1)).flatMap f = (L.take k).flatMap f ++ f L[k] := by
 rw [List.take_add_one, List.getElem?_eq_getElem h, List.flatMap_append]
 simp only [Option.toList, List.flatMap_cons, List.flatMap_nil, List.append_nil]
def RdG (sz : Nat) (w : World) (A : Option Addr) (rows : List (List Value)) : Prop := (∀ r ∈ rows, r.length = sz) ∧ (0 < rows.length → ∃ b off, A = some ⟨b, off, none⟩ ∧ b < w.heap.size ∧ ∀ j, j < rows.length → ∀ d, d < sz → w.cell? ⟨b, off + j * sz + d, none⟩ = (rows.getD j [])[d]?)
theorem RdG.below {sz : Nat} {w w' : World} {A : Option Addr} {rows : List (List Value)} (h : RdG sz w A rows) (hb : Below w.heap.size w w') : RdG sz w' A rows := by
 refine ⟨h.1, fun hn => ?_⟩
 obtain ⟨b, off, hA, hlt, hc⟩ := h.2 hn
 exact ⟨b, off, hA, Nat.lt_of_lt_of_le hlt hb.size, fun j hj d hd => (hb.cell (p := ⟨b, off + j * sz + d, none⟩) hlt).trans (hc j hj d hd)⟩
theorem RdG.at_ {sz : Nat} {w : World} {A : Option Addr} {α : Type} {f : α → List Value} {L : List α} (h : RdG sz w A (L.map f)) {k : Nat} (hk : k < L.length) : ∃ b off, A = some ⟨b, off, none⟩ ∧ ∀ wx, Below w.heap.size w wx → wx.rangeAt b (off + k * sz) (f L[k]) := by
 obtain ⟨b, off, hA, hlt, hc⟩ := h.2 (by simp; omega)
 refine ⟨b, off, hA, fun wx hb d v hv => ?_⟩
 have hr : (L.map f).getD k [] = f L[k] := by simp [List.getD, hk]
 have hd : d < sz := by
  have h1 := h.1 (f L[k]) (List.mem_map.2 ⟨_, List.getElem_mem hk, rfl⟩)
  have := (List.getElem?_eq_some_iff.1 hv).1
  omega
 have := hc k (by simpa using hk) d hd
 rw [hr, hv] at this
 exact (hb.cell (p := ⟨b, off + k * sz + d, none⟩) hlt).trans this
def BO (w0 w : World) (A : Option Addr) (n c : Nat) (bs : List UInt8) : Prop := w.ownsRow w0.heap.size 5 1 (.slice A n c) n (cells bs) ∧ Below w0.heap.size w0 w
theorem BO.nil (w : World) : BO w w none 0 0 [] := ⟨World.ownsRow_nil w _ _ _, Below.refl _ _⟩
theorem BO.rd {w0 w : World} {A : Option Addr} {n c : Nat} {bs : List UInt8} (h : BO w0 w A n c bs) : RdS w A n c bs := RdS.of_own h.1
theorem BO.below {w0 w w' : World} {A : Option Addr} {n c : Nat} {bs : List UInt8} (h : BO w0 w A n c bs) (hb : Below w.heap.size w w') : BO w0 w' A n c bs := ⟨own_thN h.1 (grown_of_below hb none) (fun p hp => by cases hp), h.2.trans (hb.mono h.2.size)⟩
theorem BO.len {w0 w : World} {A : Option Addr} {n c : Nat} {bs : List UInt8} (h : BO w0 w A n c bs) : bs.length = n := h.rd.len
theorem BO.more {w0 w w' : World} {A A' : Option Addr} {n c n' c' : Nat} {bs bs' : List UInt8} (h : BO w0 w A n c bs) (h1 : w'.ownsRow w0.heap.size 5 1 (.slice A' n' c') n' (cells bs')) (hg : w.grownBy w' (Value.slice A n c).ownBlock) : BO w0 w' A' n' c' bs' :=
 ⟨h1, h.2.grown hg h.2.size (fun p hp => (h.1.lt p hp).1)⟩
theorem put_bo (w0 w : World) (A : Option Addr) (n c N : Nat) (bs : List UInt8) (m x : Nat) (mi xi : Int) (hmi : mi = m) (hxi : xi = x) (hN : N = n + m) (h : BO w0 w A n c bs) (h1 : 1 ≤ m) (h8 : m ≤ 8) (hx : x < 18446744073709551616) (hs : n ≤ 1000000) :
 Calls Tryz.prog 35 #[.slice A n c, .int .i64 mi, .int .u64 xi] w fun e w' => ∃ A' c', e = .returned (.slice A' N c') ∧ BO w0 w' A' N c' (bs ++ beb m x) ∧ Below w.heap.size w w' := by
 subst hmi; subst hxi; subst hN
 refine (put_some A n c bs m x w h.rd h1 h8 hx (by omega)).mono ?_
 rintro e w' ⟨rfl, hB, hb⟩
 exact ⟨_, _, rfl, ⟨hB.owns (by rw [List.length_append, h.len, length_beb]) (by simp only [maxLen]; omega) h.2.size, h.2.trans (hb.mono h.2.size)⟩, hb⟩
theorem putNil_bo (w : World) (m x : Nat) (mi xi : Int) (hmi : mi = m) (hxi : xi = x) (h1 : 1 ≤ m) (h8 : m ≤ 8) (hx : x < 18446744073709551616) :
 Calls Tryz.prog 35 #[.slice none 0 0, .int .i64 mi, .int .u64 xi] w fun e w' => ∃ A' c', e = .returned (.slice A' m c') ∧ BO w w' A' m c' (beb m x) ∧ Below w.heap.size w w' :=
 (put_bo w w none 0 0 m [] m x mi xi hmi hxi (by omega) (BO.nil w) h1 h8 hx (by omega)).mono fun e w' ⟨A', c', h1, h2, h3⟩ => ⟨A', c', h1, h2, h3⟩
theorem flat_snoc {α : Type} (f : α → List UInt8) {L : List α} {k : Nat} (h : k < L.length) : (L.take (k + 1)).flatMap f = (L.take k).flatMap f ++ f L[k] := vals_at f h
theorem flat_row {α : Type} (f : α → List Value) (sz : Nat) : ∀ (L : List α) (j d : Nat), (∀ x ∈ L, (f x).length = sz) → d < sz → (L.flatMap f)[j * sz + d]? = ((L.map f).getD j [])[d]?
 | [], j, d, _, _ => by simp [List.getD]
 | a :: r, 0, d, h, hd => by
   have h1 := h a (by simp)
   simp only [List.flatMap_cons, Nat.zero_mul, Nat.zero_add, List.map_cons, List.getD_cons_zero]
   rw [List.getElem?_append_left (by omega)]
 | a :: r, j + 1, d, h, hd => by
   have h1 := h a (by simp)
   have ih := flat_row f sz r j d (fun x hx => h x (by simp [hx])) hd
   simp only [List.flatMap_cons, List.map_cons, List.getD_cons_succ]
   rw [List.getElem?_append_right (by rw [h1, Nat.succ_mul]; omega), ← ih, h1]
   congr 1
   rw [Nat.succ_mul]; omega
theorem RdG.of_own {w : World} {base n c sz : Nat} {e : TypeId} {A : Option Addr} {α : Type} {f : α → List Value} {L : List α} (h : w.ownsRow base e sz (.slice A n c) n (L.flatMap f)) (hn : L.length = n) (hf : ∀ x ∈ L, (f x).length = sz) : RdG sz w A (L.map f) := by
 refine ⟨fun r hr => by obtain ⟨x, hx, rfl⟩ := List.mem_map.1 hr; exact hf x hx, fun hp => ?_⟩
 rw [List.length_map, hn] at hp
 rcases h.2 with ⟨_, h0⟩ | ⟨g, cap, cur, hv, hb, hg, _⟩
 · omega
 · injection hv with h1 h2 h3
   subst h1; subst h3
   refine ⟨g, 0, rfl, (Array.getElem?_eq_some_iff.1 hg).1, fun j hj d hd => ?_⟩
   rw [List.length_map, hn] at hj
   rw [Nat.zero_add, ← flat_row f sz L j d hf hd]
   refine h.cellAt (j * sz + d) ?_
   have : (j + 1) * sz ≤ n * sz := Nat.mul_le_mul_right sz hj
   rw [Nat.succ_mul] at this
   omega
theorem RdG.none_ {α : Type} (f : α → List Value) (sz : Nat) (w : World) : RdG sz w none (([] : List α).map f) := ⟨by simp, by simp⟩
theorem size_alloc (w : World) (o : Obj) : w.heap.size + 1 = (w.alloc o).heap.size := by show _ = (w.heap.push o).size; simp
theorem own_blockN {w : World} {base s : Nat} {e : TypeId} {A : Option Addr} {n c : Nat} {xs : List Value} (h : w.ownsRow base e s (.slice A n c) n xs) (hn : 0 < n) : ∃ g, A = some ⟨g, 0, none⟩ ∧ base ≤ g := by
 rcases h.2 with ⟨_, h0⟩ | ⟨g, cap, cur, hv, hb, _⟩
 · omega
 · injection hv with h1 _ _
   exact ⟨g, h1, hb⟩
theorem ret_row2 {P : Program} {fn : Func} {R : Ending → World → Prop} {a : Act} {w : World} {p u : Tmp} {ty e : TypeId} {g : Nat} {cs : List Value} (h : fn.results = #[.cell p ty, .tmp u]) (hp : a.tmps.getD p undef = .pointer (some ⟨g, 0, none⟩))
 (hB : BlkV w g e cs) (hT : RowTy P ty cs.length) (hd : a.defers = []) (hR : R (.returned (.tuple #[.agg cs.toArray, a.tmps.getD u undef])) w) : bodyPost P fn R .ret a w := by
 obtain ⟨d, h1, h2, h3⟩ := hT
 refine bodyPost_ret (v := .tuple #[.agg cs.toArray, a.tmps.getD u undef]) ?_ hd hR
 rw [results_cell_tmp h, hp]
 simp only [asAddr, Sem.run_pure, Result.andThen]
 rw [run_loadVar_row w g e ty cs.toArray (0, 0) d hB h1 (by cases d <;> simp_all) (by simpa using h3)]
theorem twoB (w : World) (o : Obj) (cs : List Value) (e : TypeId) : BlkV ((w.alloc o).alloc (.cells cs.toArray e)) (w.heap.size + 1) e cs := by
 have h := BlkV.new (w.alloc o) e cs
 have : (w.alloc o).heap.size = w.heap.size + 1 := by show (w.heap.push o).size = _; simp
 rw [this] at h
 exact h
theorem twoBelow (w : World) (o o2 : Obj) : Below w.heap.size w ((w.alloc o).alloc o2) := ((Below.refl _ _).alloc (Nat.le_refl _) _).alloc (by show _ ≤ (w.heap.push o).size; simp) _
def P15 (bs : List UInt8) (w : World) (e : Ending) (w' : World) : Prop :=
 (whyPeek bs = 0 → e = .returned (.tuple #[.int .u32 (soN bs : Int), .int .u16 (sqN bs : Int), .int .i64 0])) ∧ (whyPeek bs ≠ 0 → e = .returned (.tuple #[.int .u32 0, .int .u16 0, .int .i64 (whyPeek bs)])) ∧ Below w.heap.size w w'
theorem P15.no {bs : List UInt8} {w : World} {q : Int} (h : whyPeek bs = q) (hq : q ≠ 0) : P15 bs w (.returned (.tuple #[.int .u32 0, .int .u16 0, .int .i64 q])) w := ⟨fun h2 => absurd (h.symm.trans h2) hq, fun _ => by rw [h], Below.refl _ _⟩
end Go.Proofs.YtheefckohnaceaaGreatDoor

namespace Go.Proofs.YtheefckohnaceaaGreatDoor
set_option linter.unusedVariables false

def mst (key salt : List UInt8) : List UInt8 := key ++ salt
theorem mst_len (key salt : List UInt8) (hk : key.length = 16) (hs : salt.length = 14) : (mst key salt).length = 30 := by simp [mst, hk, hs]
theorem mst_key (key salt : List UInt8) (hk : key.length = 16) : ∀ i, i < (cells key).length → (cells (mst key salt))[0 + i]? = (cells key)[i]? := fun i hi => by
 rw [mst, cells_append, Nat.zero_add, List.getElem?_append_left hi]
theorem mst_salt (key salt : List UInt8) (hk : key.length = 16) : ∀ i, i < (cells salt).length → (cells (mst key salt))[16 + i]? = (cells salt)[i]? := fun i hi => by
 rw [mst, cells_append, List.getElem?_append_right (by rw [length_cells]; omega), length_cells, hk, show 16 + i - 16 = i by omega]
theorem Blk.rdAt {w : World} {g : Nat} {e : TypeId} {bs xs : List UInt8} (h : Blk w g e bs) (o n c : Nat) (hn : xs.length = n) (hnc : n ≤ c) (hc : c ≤ maxLen) (hd : ∀ i, i < (cells xs).length → (cells bs)[o + i]? = (cells xs)[i]?) : RdS w (some ⟨g, o, none⟩) n c xs :=
 ⟨hn, hnc, hc, fun h => by simp at h, fun _ => ⟨g, o, rfl, h.lt, fun j hj => by
  rw [h.v.cell, hd j (by rw [length_cells]; omega)]
  exact cells_at (by omega)⟩⟩

def labC (salt : List UInt8) (l : Nat) : List UInt8 := (saltZ salt).set 7 ((saltZ salt).getD 7 0 ^^^ UInt8.ofNat l)
theorem labC_len (salt : List UInt8) (l : Nat) (hs : salt.length = 14) : (labC salt l).length = 16 := by rw [labC, List.length_set, saltZ_len _ hs]
def drv (key salt : List UInt8) (l n : Nat) : List UInt8 := strm key (labC salt l) n
theorem drv_len (key salt : List UInt8) (l n : Nat) : (drv key salt l n).length = n := strm_len _ _ _
theorem cells_splice (s d : List UInt8) (o : Nat) : splice (cells s) o (cells d) = cells (splice s o d) := by
 simp [splice, cells, List.map_take, List.map_drop]
theorem splice_len {α : Type} (s d : List α) (o : Nat) (h : o + d.length ≤ s.length) : (splice s o d).length = s.length := by
 simp [splice]; omega
def trio (a b c : List UInt8) : List UInt8 := a ++ (b ++ c)
theorem trio_len (a b c : List UInt8) (ha : a.length = 16) (hb : b.length = 20) (hc : c.length = 14) : (trio a b c).length = 50 := by simp [trio, ha, hb, hc]
def Z50 : List UInt8 := List.replicate 50 0
theorem Z50_len : Z50.length = 50 := by rw [Z50, List.length_replicate]
theorem trio1 (a : List UInt8) (ha : a.length = 16) : splice Z50 0 a = a ++ List.replicate 34 0 := by simp [splice, Z50, ha]
theorem trio2 (a b : List UInt8) (ha : a.length = 16) (hb : b.length = 20) : splice (splice Z50 0 a) 16 b = a ++ (b ++ List.replicate 14 0) := by
 rw [trio1 a ha, splice, List.take_left' ha, hb, List.drop_append, ha]
 simp
 omega
theorem trio3 (a b c : List UInt8) (ha : a.length = 16) (hb : b.length = 20) (hc : c.length = 14) : splice (splice (splice Z50 0 a) 16 b) 36 c = trio a b c := by
 have h : (a ++ b).length = 36 := by simp [ha, hb]
 rw [trio2 a b ha hb, ← List.append_assoc, splice, List.take_left' h, hc, trio, List.drop_of_length_le (by simp [ha, hb]), List.append_nil, List.append_assoc]
def kys (key salt : List UInt8) (f : Nat) : List UInt8 := trio (drv key salt f 16) (drv key salt (f + 1) 20) (drv key salt (f + 2) 14)
theorem kys_len (key salt : List UInt8) (f : Nat) : (kys key salt f).length = 50 := trio_len _ _ _ (drv_len _ _ _ _) (drv_len _ _ _ _) (drv_len _ _ _ _)

def trioR (a b c : List UInt8) (x y z : Nat) : List UInt8 := tab 50 fun j =>
 if j < 16 then (if j < x then a.getD j 0 else 0) else if j < 36 then (if j < 16 + y then b.getD (j - 16) 0 else 0) else (if j < 36 + z then c.getD (j - 36) 0 else 0)
theorem trioR_len (a b c : List UInt8) (x y z : Nat) : (trioR a b c x y z).length = 50 := tab_len _ _
theorem trioR_zero (a b c : List UInt8) : trioR a b c 0 0 0 = Z50 := by
 apply list_eq (n := 50) (trioR_len _ _ _ _ _ _) Z50_len
 intro i hi
 rw [trioR, tab_get _ _ _ hi, Z50]
 have h0 : ∀ (n j : Nat), (List.replicate n (0 : UInt8)).getD j 0 = 0 := fun n j => by
  simp only [List.getD, List.getElem?_replicate]
  split <;> rfl
 rw [h0]
 by_cases h1 : i < 16
 · rw [if_pos h1, if_neg (by omega)]
 · rw [if_neg h1]
   by_cases h2 : i < 36
   · rw [if_pos h2, if_neg (by omega)]
   · rw [if_neg h2, if_neg (by omega)]
theorem getD_setU (l : List UInt8) (k i : Nat) (v : UInt8) (hk : k < l.length) : (l.set k v).getD i 0 = if i = k then v else l.getD i 0 := by
 simp only [List.getD, List.getElem?_set]
 by_cases h : i = k
 · subst h; simp [hk]
 · rw [if_neg (fun e => h e.symm), if_neg h]
theorem trioR_x (a b c : List UInt8) (x y z : Nat) (hx : x < 16) : (trioR a b c x y z).set x (a.getD x 0) = trioR a b c (x + 1) y z := by
 apply list_eq (n := 50) (by rw [List.length_set, trioR_len]) (trioR_len _ _ _ _ _ _)
 intro i hi
 rw [getD_setU _ _ _ _ (by rw [trioR_len]; omega), trioR, trioR, tab_get _ _ _ hi, tab_get _ _ _ hi]
 by_cases h : i = x
 · subst h
   rw [if_pos rfl, if_pos hx, if_pos (by omega)]
 · rw [if_neg h]
   by_cases h1 : i < 16
   · rw [if_pos h1, if_pos h1]
     by_cases h2 : i < x
     · rw [if_pos h2, if_pos (by omega)]
     · rw [if_neg h2, if_neg (by omega)]
   · rw [if_neg h1, if_neg h1]
theorem trioR_y (a b c : List UInt8) (x y z : Nat) (hy : y < 20) : (trioR a b c x y z).set (16 + y) (b.getD y 0) = trioR a b c x (y + 1) z := by
 apply list_eq (n := 50) (by rw [List.length_set, trioR_len]) (trioR_len _ _ _ _ _ _)
 intro i hi
 rw [getD_setU _ _ _ _ (by rw [trioR_len]; omega), trioR, trioR, tab_get _ _ _ hi, tab_get _ _ _ hi]
 by_cases h : i = 16 + y
 · subst h
   rw [if_pos rfl, if_neg (by omega), if_pos (by omega), if_pos (by omega), show 16 + y - 16 = y by omega]
 · rw [if_neg h]
   by_cases h1 : i < 16
   · rw [if_pos h1, if_pos h1]
   · rw [if_neg h1, if_neg h1]
     by_cases h3 : i < 36
     · rw [if_pos h3, if_pos h3]
       by_cases h2 : i < 16 + y
       · rw [if_pos h2, if_pos (by omega)]
       · rw [if_neg h2, if_neg (by omega)]
     · rw [if_neg h3, if_neg h3]
theorem trioR_z (a b c : List UInt8) (x y z : Nat) (hz : z < 14) : (trioR a b c x y z).set (36 + z) (c.getD z 0) = trioR a b c x y (z + 1) := by
 apply list_eq (n := 50) (by rw [List.length_set, trioR_len]) (trioR_len _ _ _ _ _ _)
 intro i hi
 rw [getD_setU _ _ _ _ (by rw [trioR_len]; omega), trioR, trioR, tab_get _ _ _ hi, tab_get _ _ _ hi]
 by_cases h : i = 36 + z
 · subst h
   rw [if_pos rfl, if_neg (by omega), if_neg (by omega), if_pos (by omega), show 36 + z - 36 = z by omega]
 · rw [if_neg h]
   by_cases h1 : i < 16
   · rw [if_pos h1, if_pos h1]
   · rw [if_neg h1, if_neg h1]
     by_cases h3 : i < 36
     · rw [if_pos h3, if_pos h3]
     · rw [if_neg h3, if_neg h3]
       by_cases h2 : i < 36 + z
       · rw [if_pos h2, if_pos (by omega)]
       · rw [if_neg h2, if_neg (by omega)]
theorem trioR_all (a b c : List UInt8) (ha : a.length = 16) (hb : b.length = 20) (hc : c.length = 14) : trioR a b c 16 20 14 = trio a b c := by
 apply list_eq (n := 50) (trioR_len _ _ _ _ _ _) (trio_len _ _ _ ha hb hc)
 intro i hi
 rw [trioR, tab_get _ _ _ hi, trio]
 by_cases h1 : i < 16
 · rw [if_pos h1, if_pos h1, getD_app_left _ _ _ (by omega)]
 · rw [if_neg h1, getD_app_right _ _ _ (by omega), ha]
   by_cases h3 : i < 36
   · rw [if_pos h3, if_pos (by omega), getD_app_left _ _ _ (by omega)]
   · rw [if_neg h3, if_pos (by omega), getD_app_right _ _ _ (by omega), hb, show i - 16 - 20 = i - 36 by omega]

end Go.Proofs.YtheefckohnaceaaGreatDoor

namespace Go.Proofs.YtheefckohnaceaaGreatDoor
open Go.RowKit
set_option linter.unusedVariables false

theorem max_xor (b : Nat) (hb : b < 4294967296) : bits BinOp.xor IntKind.u32 IntKind.u32.max (b : Int) = ((4294967295 - b : Nat) : Int) := by
 show IntKind.u32.wrap ((BitVec.ofInt 32 ((4294967295 : Nat) : Int) ^^^ BitVec.ofInt 32 (b : Int)).toNat : Int) = _
 have e : BitVec.ofInt 32 ((4294967295 : Nat) : Int) = BitVec.allOnes 32 := by decide
 rw [e, BitVec.allOnes_xor, BitVec.toNat_not, ofInt_u32 b hb, IntKind.wrap_u32']
 omega

theorem rotl5 (x : Nat) (w : World) (hx : x < 4294967296) : Calls Tryz.prog 133 #[.int .u32 x, .int .i64 5] w fun e w' => e = .returned (.int .u32 (rot 5 x : Nat)) ∧ w = w' := by
 have h := rot_or 5 x (by omega) hx
 have hb : bits BinOp.or IntKind.u32 ((x : Int) * 32 % 4294967296) ((x : Int) / 134217728) = (rot 5 x : Nat) := by
  have e1 : (x : Int) * 32 % 4294967296 = ((x * 2 ^ 5 % 4294967296 : Nat) : Int) := by omega
  have e2 : (x : Int) / 134217728 = ((x / 2 ^ (32 - 5) : Nat) : Int) := by omega
  rw [e1, e2, u32_or_nat _ _ (by omega) (by omega), h]
 have hx' : (x : Int) ≤ 4294967295 := by omega
 have hk : bits BinOp.and IntKind.u64 5 31 = 5 := by decide
 have HB := Lib.hid hb
 clear h hb
 go_enter Tryz.func133, Tryz.ntmps133
 go_wp2
 rw [HB.out]
 go_ret
 exact ⟨rfl, rfl⟩
theorem rotl1 (x : Nat) (w : World) (hx : x < 4294967296) : Calls Tryz.prog 133 #[.int .u32 x, .int .i64 1] w fun e w' => e = .returned (.int .u32 (rot 1 x : Nat)) ∧ w = w' := by
 have h := rot_or 1 x (by omega) hx
 have hb : bits BinOp.or IntKind.u32 ((x : Int) * 2 % 4294967296) ((x : Int) / 2147483648) = (rot 1 x : Nat) := by
  have e1 : (x : Int) * 2 % 4294967296 = ((x * 2 ^ 1 % 4294967296 : Nat) : Int) := by omega
  have e2 : (x : Int) / 2147483648 = ((x / 2 ^ (32 - 1) : Nat) : Int) := by omega
  rw [e1, e2, u32_or_nat _ _ (by omega) (by omega), h]
 have hx' : (x : Int) ≤ 4294967295 := by omega
 have hk : bits BinOp.and IntKind.u64 1 31 = 1 := by decide
 have HB := Lib.hid hb
 clear h hb
 go_enter Tryz.func133, Tryz.ntmps133
 go_wp2
 rw [HB.out]
 go_ret
 exact ⟨rfl, rfl⟩
theorem rotl30 (x : Nat) (w : World) (hx : x < 4294967296) : Calls Tryz.prog 133 #[.int .u32 x, .int .i64 30] w fun e w' => e = .returned (.int .u32 (rot 30 x : Nat)) ∧ w = w' := by
 have h := rot_or 30 x (by omega) hx
 have hb : bits BinOp.or IntKind.u32 ((x : Int) * 1073741824 % 4294967296) ((x : Int) / 4) = (rot 30 x : Nat) := by
  have e1 : (x : Int) * 1073741824 % 4294967296 = ((x * 2 ^ 30 % 4294967296 : Nat) : Int) := by omega
  have e2 : (x : Int) / 4 = ((x / 2 ^ (32 - 30) : Nat) : Int) := by omega
  rw [e1, e2, u32_or_nat _ _ (by omega) (by omega), h]
 have hx' : (x : Int) ≤ 4294967295 := by omega
 have hk : bits BinOp.and IntKind.u64 30 31 = 30 := by decide
 have HB := Lib.hid hb
 clear h hb
 go_enter Tryz.func133, Tryz.ntmps133
 go_wp2
 rw [HB.out]
 go_ret
 exact ⟨rfl, rfl⟩
theorem rot_is (k x : Nat) (hk : k = 1 ∨ k = 5 ∨ k = 30) : ((rot k x : Nat) : Int) = (x : Int) * 2 ^ k % 4294967296 + (x : Int) / 2 ^ (32 - k) := by
 unfold rot
 rcases hk with rfl | rfl | rfl <;> simp
theorem left5 (x : Nat) (w : World) (hx : x < 4294967296) : Calls Tryz.prog 69 #[.int .u32 x, .int .u64 5] w fun e w' => e = .returned (.int .u32 (rot 5 x : Nat)) ∧ w = w' := by
 have hx' : (x : Int) ≤ 4294967295 := by omega
 have h := rot_is 5 x (by omega)
 simp only [Int.reducePow, Nat.reduceSub] at h
 have H := Lib.hid h
 clear h
 go_enter Tryz.func69, Tryz.ntmps69
 go_wp2
 rw [← H.out]
 go_ret
 exact ⟨rfl, rfl⟩
theorem left1 (x : Nat) (w : World) (hx : x < 4294967296) : Calls Tryz.prog 69 #[.int .u32 x, .int .u64 1] w fun e w' => e = .returned (.int .u32 (rot 1 x : Nat)) ∧ w = w' := by
 have hx' : (x : Int) ≤ 4294967295 := by omega
 have h := rot_is 1 x (by omega)
 simp only [Int.reducePow, Nat.reduceSub] at h
 have H := Lib.hid h
 clear h
 go_enter Tryz.func69, Tryz.ntmps69
 go_wp2
 rw [← H.out]
 go_ret
 exact ⟨rfl, rfl⟩
theorem left30 (x : Nat) (w : World) (hx : x < 4294967296) : Calls Tryz.prog 69 #[.int .u32 x, .int .u64 30] w fun e w' => e = .returned (.int .u32 (rot 30 x : Nat)) ∧ w = w' := by
 have hx' : (x : Int) ≤ 4294967295 := by omega
 have h := rot_is 30 x (by omega)
 simp only [Int.reducePow, Nat.reduceSub] at h
 have H := Lib.hid h
 clear h
 go_enter Tryz.func69, Tryz.ntmps69
 go_wp2
 rw [← H.out]
 go_ret
 exact ⟨rfl, rfl⟩

theorem ff20 (t b c d : Nat) (ht : t < 20) (hb : b < 4294967296) (hc : c < 4294967296) (hd : d < 4294967296) :
 bits BinOp.or IntKind.u32 (bits BinOp.and IntKind.u32 b c) (bits BinOp.and IntKind.u32 ((4294967295 - b : Nat) : Int) d) = ((ff t b c d : Nat) : Int) := by
 rw [u32_and_nat _ _ hb hc, u32_and_nat _ _ (by omega) hd, u32_or_nat _ _ (and32 hb) (and32 (by omega))]
 simp [ff, ht]
theorem ff40 (t b c d : Nat) (ht : (20 ≤ t ∧ t < 40) ∨ 60 ≤ t) (hb : b < 4294967296) (hc : c < 4294967296) (hd : d < 4294967296) :
 bits BinOp.xor IntKind.u32 (bits BinOp.xor IntKind.u32 b c) d = ((ff t b c d : Nat) : Int) := by
 rw [u32_xor_nat _ _ hb hc, u32_xor_nat _ _ (xor32 hb hc) hd]
 unfold ff
 rcases ht with ⟨h1, h2⟩ | h
 · rw [if_neg (by omega), if_pos h2]
 · rw [if_neg (by omega), if_neg (by omega), if_neg (by omega)]
theorem ff60 (t b c d : Nat) (ht : 40 ≤ t ∧ t < 60) (hb : b < 4294967296) (hc : c < 4294967296) (hd : d < 4294967296) :
 bits BinOp.or IntKind.u32 (bits BinOp.or IntKind.u32 (bits BinOp.and IntKind.u32 b c) (bits BinOp.and IntKind.u32 b d)) (bits BinOp.and IntKind.u32 c d) = ((ff t b c d : Nat) : Int) := by
 rw [u32_and_nat _ _ hb hc, u32_and_nat _ _ hb hd, u32_and_nat _ _ hc hd, u32_or_nat _ _ (and32 hb) (and32 hb), u32_or_nat _ _ (or32 (and32 hb) (and32 hb)) (and32 hc)]
 unfold ff
 rw [if_neg (by omega), if_neg (by omega), if_pos ht.2]
theorem kk20 {t : Nat} (h : t < 20) : kk t = 1518500249 := by simp [kk, h]
theorem kk40 {t : Nat} (h : 20 ≤ t) (h2 : t < 40) : kk t = 1859775393 := by unfold kk; rw [if_neg (by omega), if_pos h2]
theorem kk60 {t : Nat} (h : 40 ≤ t) (h2 : t < 60) : kk t = 2400959708 := by unfold kk; rw [if_neg (by omega), if_neg (by omega), if_pos h2]
theorem kk80 {t : Nat} (h : 60 ≤ t) : kk t = 3395469782 := by unfold kk; rw [if_neg (by omega), if_neg (by omega), if_neg (by omega)]

theorem mix_any (t b c d : Nat) (w : World) (ht : t < 80) (hb : b < 4294967296) (hc : c < 4294967296) (hd : d < 4294967296) :
 Calls Tryz.prog 132 #[.int .i64 t, .int .u32 b, .int .u32 c, .int .u32 d] w fun e w' => e = .returned (.tuple #[.int .u32 (ff t b c d : Nat), .int .u32 (kk t : Nat)]) ∧ w = w' := by
 rcases Nat.lt_or_ge t 20 with h1 | h1
 · have HF := Lib.hid (ff20 t b c d h1 hb hc hd)
   have HK := Lib.hid (kk20 h1)
   have hm := max_xor b hb
   have hs : IntKind.u32.signed = false := rfl
   have HM := Lib.hid hm
   clear hm
   go_enter Tryz.func132, Tryz.ntmps132
   go_wp2
   rw [HM.out, HF.out]
   go_ret2
   exact ⟨by rw [HK.out]; rfl, rfl⟩
 rcases Nat.lt_or_ge t 40 with h2 | h2
 · have HF := Lib.hid (ff40 t b c d (by omega) hb hc hd)
   have HK := Lib.hid (kk40 h1 h2)
   go_enter Tryz.func132, Tryz.ntmps132
   go_wp2
   rw [HF.out]
   go_ret2
   exact ⟨by rw [HK.out]; rfl, rfl⟩
 rcases Nat.lt_or_ge t 60 with h3 | h3
 · have HF := Lib.hid (ff60 t b c d (by omega) hb hc hd)
   have HK := Lib.hid (kk60 h2 h3)
   go_enter Tryz.func132, Tryz.ntmps132
   go_wp2
   rw [HF.out]
   go_ret2
   exact ⟨by rw [HK.out]; rfl, rfl⟩
 · have HF := Lib.hid (ff40 t b c d (by omega) hb hc hd)
   have HK := Lib.hid (kk80 h3)
   go_enter Tryz.func132, Tryz.ntmps132
   go_wp2
   rw [HF.out]
   go_ret2
   exact ⟨by rw [HK.out]; rfl, rfl⟩
end Go.Proofs.YtheefckohnaceaaGreatDoor
