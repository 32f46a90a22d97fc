/- Several texts in one: Plain words on slices of bytes, for any program: a slice that reads as a list of bytes, kept over new memory; what it is as a string; what the call's own row of bytes is. What the functions of package octets answer, and what they leave of memory: contracts that the proofs of the statements use. Plain words on blocks of cells of any kind, for any program: a block that is known whole, arrays read out of it and laid into it, what a store leaves. Plain mathematics on losses and names: the numbers that losses tell, there and back. No program is named; no statement is proved here. Plain mathematics on control packets: what they are, and their bytes. No program is named; no statement is proved here. What the document's answers for layer 1 (tenailleref01) answer, and what they leave of memory: contracts that the proofs of the statements use. Plain words, for any program: one value more behind a row of the call's own, and the row as it was. Plain mathematics on control packets: what a packet has, and its body's bytes by its kind. No program is named; no statement is proved here. Plain words, for any program: a region by hand: a whole array loaded, a guarded operation that comes up alone. Plain words, for any program: a slice of structs of one-cell fields (integers, bools) that comes in. No statement is proved here. -/
import Derived.WalkKit
import Derived.Below
import Derived.Laws.BytesArg
import Derived.Laws.CopyOwn
import Derived.Laws.AppendOwnNone
import Derived.WalkSmall
import Derived.IntWalk
import Derived.OpenShut
import Derived.Maps.AppendAt
import Derived.Deep.AppendLies
import Derived.RegionTactic
import Derived.Test.YtacaempcbdekaaaDoorProg
import Derived.Test.YtacaempcbdekaaaDoorZNums
import Derived.KernelRfl
import Derived.Lib.Hide
import Derived.Deep.MidRow
import Derived.Stop.BytesEq
import Derived.Maps.Range
import Derived.StillTailTactics
import Derived.Deep.RegionLaw
import Derived.ArgAppend
import Derived.Deep.Fields
namespace Go.Proofs.YtacaempcbdekaaaDoor
open Go.RowKit

/-- The cells of a row of bytes. -/
def cells (bs : List UInt8) : List Value := bs.map fun b => .int .u8 (b.toNat : Int)
/-- The text of a row of bytes. -/
def txt (bs : List UInt8) : ByteArray := ⟨bs.toArray⟩

theorem length_cells (bs : List UInt8) : (cells bs).length = bs.length := by simp [cells]
theorem cells_append (a b : List UInt8) : cells (a ++ b) = cells a ++ cells b := by simp [cells]
theorem cells_one (bs : List UInt8) : ∀ u ∈ cells bs, u.oneCell' = true := by
  intro u hu
  obtain ⟨_, _, rfl⟩ := List.mem_map.1 hu
  rfl
theorem cells_at {bs : List UInt8} {j : Nat} (h : j < bs.length) : (cells bs)[j]? = some (.int .u8 ((bs.getD j 0).toNat : Int)) := by
  simp [cells, List.getD, h]
theorem cells_replicate (n : Nat) (b : UInt8) : cells (List.replicate n b) = List.replicate n (.int .u8 (b.toNat : Int)) := by simp [cells]
theorem cells_set (bs : List UInt8) (j : Nat) (b : UInt8) : (cells bs).set j (.int .u8 (b.toNat : Int)) = cells (bs.set j b) := by simp [cells, List.map_set]
theorem txt_inj {a b : List UInt8} : txt a = txt b ↔ a = b := by
  constructor
  · intro h
    have := congrArg (fun s : ByteArray => s.data.toList) h
    simpa [txt] using this
  · rintro rfl; rfl
theorem txt_toList (a : List UInt8) : (txt a).toList = a := by
  rw [ByteArray.toList_eq]; simp [txt]

/-- The slice '.slice A n c' reads as the bytes bs. -/
def RdS (w : World) (A : Option Addr) (n c : Nat) (bs : List UInt8) : Prop :=
  bs.length = n ∧ n ≤ c ∧ c ≤ maxLen ∧ (A = none → c = 0) ∧
  (0 < n → ∃ b off, A = some ⟨b, off, none⟩ ∧ b < w.heap.size ∧ ∀ j, j < n → w.cell? ⟨b, off + j, none⟩ = some (.int .u8 ((bs.getD j 0).toNat : Int)))

theorem RdS.len {w : World} {A : Option Addr} {n c : Nat} {bs : List UInt8} (h : RdS w A n c bs) : bs.length = n := h.1
theorem RdS.le {w : World} {A : Option Addr} {n c : Nat} {bs : List UInt8} (h : RdS w A n c bs) : n ≤ c := h.2.1
theorem RdS.max {w : World} {A : Option Addr} {n c : Nat} {bs : List UInt8} (h : RdS w A n c bs) : c ≤ maxLen := h.2.2.1
theorem RdS.small {w : World} {A : Option Addr} {n c : Nat} {bs : List UInt8} (h : RdS w A n c bs) : n ≤ 9223372036854775807 ∧ c ≤ 9223372036854775807 := by
  have h1 := h.le
  have h2 := h.max
  simp only [maxLen] at h2
  omega

theorem RdS.below {w w' : World} {A : Option Addr} {n c : Nat} {bs : List UInt8} (h : RdS w A n c bs) (hb : Below w.heap.size w w') : RdS w' A n c bs := by
  refine ⟨h.1, h.2.1, h.2.2.1, h.2.2.2.1, fun hn => ?_⟩
  obtain ⟨b, off, hA, hlt, hc⟩ := h.2.2.2.2 hn
  exact ⟨b, off, hA, Nat.lt_of_lt_of_le hlt hb.size, fun j hj => (hb.cell (p := ⟨b, off + j, none⟩) hlt).trans (hc j hj)⟩

theorem RdS.belowB {w w' : World} {A : Option Addr} {n c : Nat} {bs : List UInt8} (h : RdS w A n c bs) {B : Nat} (hb : Below B w w') (hB : w.heap.size ≤ B) : RdS w' A n c bs := h.below (hb.mono hB)

theorem RdS.drew {w : World} {A : Option Addr} {n c : Nat} {bs : List UInt8} (h : RdS w A n c bs) : RdS w.drew A n c bs := h

theorem RdS.nil (w : World) : RdS w none 0 0 [] := ⟨rfl, Nat.le_refl _, by simp, fun _ => rfl, fun h => absurd h (by omega)⟩

theorem RdS.of_own {w : World} {base : Nat} {e : TypeId} {A : Option Addr} {n c : Nat} {bs : List UInt8} (h : w.ownsRow base e 1 (.slice A n c) n (cells bs)) : RdS w A n c bs := by
  have hl : bs.length = n := by simpa [length_cells] using h.1
  have hat := h
  rcases h.2 with ⟨hv, hn⟩ | ⟨g, cap, cur, hv, hb, hg, hnc, hcm, hcs, htake⟩
  · injection hv with h1 h2 h3
    subst h1; subst h3
    exact ⟨hl, by omega, by simp, fun _ => rfl, fun h => absurd h (by omega)⟩
  · injection hv with h1 h2 h3
    subst h1; subst h3
    refine ⟨hl, hnc, hcm, fun h => by simp at h, fun hn => ⟨g, 0, rfl, (Array.getElem?_eq_some_iff.1 hg).1, fun j hj => ?_⟩⟩
    rw [Nat.zero_add, hat.cellAt j (by omega), cells_at (by omega)]

/-- Where a slice came in as a row of numbers that fit a byte. -/
theorem RdS.of_row {w : World} {a : Option Addr} {len cap : Nat} {zs : List Int}
    (h : (a = none ∧ len = 0 ∧ cap = 0 ∧ zs = []) ∨
      ∃ x, a = some x ∧ len ≤ cap ∧ cap ≤ maxLen ∧ zs.length = cap ∧ (∀ i, i < zs.length → w.cell? (x.add i) = some (.int .u8 (zs.getD i 0))) ∧ ∀ n ∈ zs, (Lit.int .u8 n).wf = true) :
    ∃ bs, RdS w a len cap bs := by
  rcases h with ⟨rfl, rfl, rfl, rfl⟩ | ⟨x, rfl, hl, hm, hz, hc, hw⟩
  · exact ⟨[], RdS.nil w⟩
  · refine ⟨(zs.take len).map fun z => UInt8.ofNat z.toNat, by simp; omega, hl, hm, fun h => by simp at h, fun hn => ?_⟩
    obtain ⟨b, off, spot⟩ := x
    have h0 := hc 0 (by omega)
    have hs : spot = none := by simpa [Addr.add] using World.cell?_spot h0
    subst hs
    have hadd : ∀ j, (⟨b, off, none⟩ : Addr).add j = ⟨b, off + j, none⟩ := fun j => by unfold Addr.add; split <;> simp_all
    refine ⟨b, off, rfl, ?_, fun j hj => ?_⟩
    · have := World.block_lt_of_cell? w _ h0
      rw [hadd] at this
      exact this
    · have hcj := hc j (by omega)
      rw [hadd] at hcj
      have hjz : j < zs.length := by omega
      have hwj := bounds_u8 (hw (zs[j]) (List.getElem_mem hjz))
      rw [hcj]
      simp only [List.getD, hjz, hj, List.getElem?_map, List.getElem?_take, if_true, List.getElem?_eq_getElem, Option.map_some, Option.getD_some]
      congr 2
      rw [UInt8.toNat_ofNat']
      omega

/-- A slice of bytes made a string. -/
theorem run_conv {P : Program} {w : World} {A : Option Addr} {n c : Nat} {bs : List UInt8} (h : RdS w A n c bs) (src dst e : TypeId) (hs : P.underlying src = some (.slice e)) (he : P.underlying e = some (.int .u8))
    (hd : P.underlying dst = some .string) : (convert src dst (.slice A n c)).run P w = .ok (.string (txt bs)) w := by
  rcases Nat.eq_zero_or_pos n with h0 | h0
  · subst h0
    have hb : bs = [] := List.eq_nil_of_length_eq_zero h.1
    subst hb
    rcases A with _ | a
    · rw [run_convert_bytes_nil w src e hs he 0 c dst hd]; rfl
    · rw [run_convert_bytes_string w src dst e _ 0 c hs he hd]
      have := run_bytesToString (P := P) w a 0 c [] (run_loadCells_list (P := P) w a [] (fun j v hj => by simp at hj))
      rw [this]; rfl
  · obtain ⟨b, off, rfl, _, hc⟩ := h.2.2.2.2 h0
    have hm : ∀ j, j < n → ((bs.map fun b => (b.toNat : Int)).getD j 0) = ((bs.getD j 0).toNat : Int) := fun j hj => by
      have : j < bs.length := by rw [h.1]; exact hj
      simp [List.getD, this]
    rw [run_convert_bytes_arg w src e hs he b off n c (bs.map fun b => (b.toNat : Int)) (by simpa using h.1) (fun j hj => by rw [hm j hj]; exact hc j hj) dst hd]
    have : strOfNums (bs.map fun b => (b.toNat : Int)) = txt bs := by
      simp [strOfNums, txt, Function.comp_def]
    rw [this]

/-- Block g is just these bytes. -/
def Blk (w : World) (g : Nat) (e : TypeId) (bs : List UInt8) : Prop := w.heap[g]? = some (.cells (cells bs).toArray e (0, 0))
section
variable {w w' : World} {g : Nat} {e : TypeId} {bs : List UInt8}
theorem Blk.lt (h : Blk w g e bs) : g < w.heap.size := (Array.getElem?_eq_some_iff.1 h).1
theorem Blk.cell (h : Blk w g e bs) {j : Nat} (hj : j < bs.length) : w.cell? ⟨g, j, none⟩ = some (.int .u8 ((bs.getD j 0).toNat : Int)) := by
  rw [cell_of_row w g j _ e (0, 0) h]
  simpa using cells_at hj
theorem Blk.frozen (h : Blk w g e bs) (j : Nat) : w.frozen? ⟨g, j, none⟩ = false := frozen_of_row w g j _ e h
theorem Blk.drew (h : Blk w g e bs) : Blk w.drew g e bs := h
theorem Blk.alloc (h : Blk w g e bs) (o : Obj) : Blk (w.alloc o) g e bs := (Below.heap_alloc w o g h.lt).trans h
theorem Blk.set_ (h : Blk w g e bs) (j : Nat) (b : UInt8) : Blk (w.setCell ⟨g, j, none⟩ (.int .u8 (b.toNat : Int))) g e (bs.set j b) := by
  have := heap_setCell_same w g j (cells bs).toArray e (.int .u8 (b.toNat : Int)) h
  unfold Blk
  rw [this, ← cells_set]
  simp
theorem Blk.far (h : Blk w g e bs) {p : Addr} (hp : g ≠ p.block) (u : Value) : Blk (w.setCell p u) g e bs := (Below.heap_setCell w p u g hp).trans h
theorem Blk.below {B : Nat} (h : Blk w g e bs) (hb : Below B w w') (hg : g < B) : Blk w' g e bs := (hb.block g hg).trans h
theorem Blk.grown {row : Option Nat} (h : Blk w g e bs) (hb : w.grownBy w' row) (hg : some g ≠ row) : Blk w' g e bs := (hb.block g h.lt hg).trans h
theorem Blk.rd (h : Blk w g e bs) {n c : Nat} (hn : bs.length = n) (hc : n ≤ c) (hm : c ≤ maxLen) : RdS w (some ⟨g, 0, none⟩) n c bs :=
  ⟨hn, hc, hm, fun h => by simp at h, fun _ => ⟨g, 0, rfl, h.lt, fun j hj => by rw [Nat.zero_add]; exact h.cell (by omega)⟩⟩
theorem Blk.owns (h : Blk w g e bs) {n base : Nat} (hn : bs.length = n) (hm : n ≤ maxLen) (hb : base ≤ g) : w.ownsRow base e 1 (.slice (some ⟨g, 0, none⟩) n n) n (cells bs) :=
  ⟨by simp [length_cells, hn], .inr ⟨g, n, _, rfl, hb, h, Nat.le_refl _, hm, by simp [length_cells, hn], by simp [List.take_of_length_le, length_cells, hn]⟩⟩
theorem Blk.new (w : World) (e : TypeId) (bs : List UInt8) : Blk (w.alloc (.cells (cells bs).toArray e)) w.heap.size e bs := heap_alloc_new w _
end

theorem made_cells (n : Nat) : madeCells #[.int .u8 0] n = (cells (List.replicate n 0)).toArray := by
  rw [cells_replicate, ← Array.toList_inj, toList_madeCells_one]
  simp

/-- 'make([]byte, n)'. -/
theorem run_makeB {P : Program} {t e : TypeId} (ht : P.underlying t = some (.slice e)) (hi : (P.info? e).map (fun i => (i.zero, i.size, i.bytes)) = some (some (.int .u8 0), 1, 1))
    (kl kc : IntKind) (l c : Int) (n : Nat) (hl : l = n) (hc : c = n) (hb : n ≤ 281474976710656) (w : World) :
    (Instr.makeSlice t (.int kl l) (.int kc c)).run P w = .ok (.slice (some ⟨w.heap.size, 0, none⟩) n n) (w.alloc (.cells (cells (List.replicate n 0)).toArray e)) := by
  subst hl; subst hc
  obtain ⟨i, hi, hz, hs, hby⟩ := info_parts hi
  have := run_make (P := P) w t e i _ ht hi hz kl kc n n (by omega) (Int.le_refl _) (by rw [hby]; omega) (by omega)
  rw [this, hs]
  simp [Value.cells, made_cells]

section
variable {P : Program} (w : World)
theorem run_append_rd (base : Nat) {t e : TypeId} (ty : TypeId) (ht : P.underlying t = some (.slice e)) (hi : (P.info? e).map (fun i => (i.zero, i.size, i.bytes)) = some (some (.int .u8 0), 1, 1))
    (v : Value) (n : Nat) (xs : List UInt8) (hown : w.ownsRow base e 1 v n (cells xs)) (A : Option Addr) (m c : Nat) (news : List UInt8) (hr : RdS w A m c news)
    (h : n + m ≤ 140737488355328) (hbase : base ≤ w.heap.size) :
    ∃ v' w', (Builtin.append_ #[t, t] ty #[v, .slice A m c]).run P w = .ok v' w' ∧ w'.ownsRow base e 1 v' (n + m) (cells (xs ++ news)) ∧ w.grownBy w' v.ownBlock ∧
      (v'.ownBlock = v.ownBlock ∨ v'.ownBlock = some w.heap.size) := by
  obtain ⟨i, hi, hz, hs, hby⟩ := info_parts hi
  have hml : n + m ≤ maxLen := by simp only [maxLen]; omega
  rcases A with _ | ad
  · have hc : c = 0 := hr.2.2.2.1 rfl
    have hm : m = 0 := by have := hr.le; omega
    subst hm; subst hc
    have hn : news = [] := List.eq_nil_of_length_eq_zero hr.1
    subst hn
    exact ⟨v, w, run_append_owned_none w base t ty e i 1 ht hi v n _ hown, by simpa using hown, World.grownBy.refl w _, .inl rfl⟩
  · have hcells : ∀ j u, (cells news)[j]? = some u → w.cell? (ad.add j) = some u := by
      intro j u hu
      have hj : j < news.length := by
        rcases Nat.lt_or_ge j news.length with h | h
        · exact h
        · rw [List.getElem?_eq_none (by rw [length_cells]; exact h)] at hu; cases hu
      have hl := hr.len
      obtain ⟨b, off, hA, _, hc⟩ := hr.2.2.2.2 (by omega)
      injection hA with hA
      subst hA
      rw [Addr.add_lit, hc j (by omega)]
      rw [cells_at hj] at hu
      exact hu
    obtain ⟨v', w', hrun, h2, h3, _, h5⟩ := run_append_own_at (P := P) w base t ty e i _ 1 1 ht hi hz hs hby rfl (by omega) v n _ hown ad m c (cells news) (by rw [length_cells, hr.len]; omega) hcells (cells_one news) hml (by omega) hbase
    exact ⟨v', w', hrun, by rw [cells_append]; exact h2, h3, h5⟩

theorem wp_append_rd {o : Oper} {a : Act} {K : Act → World → Prop} {Q : Exit → Act → World → Prop} (s x : Operand) {t e : TypeId}
    (ho : o.op = .call { callee := .builtin .append, args := #[s, x], argTypes := #[t, t] }) (ht : P.underlying t = some (.slice e)) (hi : (P.info? e).map (fun i => (i.zero, i.size, i.bytes)) = some (some (.int .u8 0), 1, 1))
    (base : Nat) (v : Value) (n : Nat) (xs : List UInt8) (hs : a.eval s = v) (hown : w.ownsRow base e 1 v n (cells xs)) (A : Option Addr) (m c : Nat) (news : List UInt8) (hx : a.eval x = .slice A m c) (hr : RdS w A m c news)
    (h : n + m ≤ 140737488355328) (hbase : base ≤ w.heap.size)
    (hK : ∀ v' w', w'.ownsRow base e 1 v' (n + m) (cells (xs ++ news)) → w.grownBy w' v.ownBlock → (v'.ownBlock = v.ownBlock ∨ v'.ownBlock = some w.heap.size) → K (a.put o.dst v') w') : o.wp P a w K Q := by
  obtain ⟨v', w', hrun, h2, h3, h4⟩ := run_append_rd (P := P) w base o.type ht hi v n xs hown A m c news hr h hbase
  unfold Oper.wp execOp
  simp only [ho, resolve, invoke, builtin, Sem.run_bind, Sem.run_pure, Result.andThen_ok, List.map_toArray, List.map_cons, List.map_nil, hs, hx, hrun]
  exact hK v' w' h2 h3 h4

/-- 'append' of bytes that read, onto a row of the call's own, as a law of the walk. -/
theorem wpList_append_rd {ops : Array Oper} {rest : List Oper} {o : Oper} {a : Act} {Q : Exit → Act → World → Prop} (hgd : o.guard = none) (s x : Operand) {t e : TypeId}
    (ho : o.op = .call { callee := .builtin .append, args := #[s, x], argTypes := #[t, t] }) (ht : P.underlying t = some (.slice e)) (hi : (P.info? e).map (fun i => (i.zero, i.size, i.bytes)) = some (some (.int .u8 0), 1, 1))
    (base : Nat) (v : Value) (n : Nat) (xs : List UInt8) (hs : a.eval s = v) (hown : w.ownsRow base e 1 v n (cells xs)) (A : Option Addr) (m c : Nat) (news : List UInt8) (hx : a.eval x = .slice A m c) (hr : RdS w A m c news)
    (h : n + m ≤ 140737488355328) (hbase : base ≤ w.heap.size)
    (hK : ∀ v' w', w'.ownsRow base e 1 v' (n + m) (cells (xs ++ news)) → w.grownBy w' v.ownBlock → (v'.ownBlock = v.ownBlock ∨ v'.ownBlock = some w.heap.size) → wpList P ops Q rest (a.put o.dst v') w') : wpList P ops Q (o :: rest) a w :=
  wpList_plain hgd fun _ hK2 => wp_append_rd w s x ho ht hi base v n xs hs hown A m c news hx hr h hbase fun v' w' h2 h3 h4 => hK2 _ _ (hK v' w' h2 h3 h4)

/-- 'copy' of bytes that read over the head of a block of bytes, as a law of the walk. -/
theorem wpList_copy_rd {ops : Array Oper} {rest : List Oper} {o : Oper} {a : Act} {Q : Exit → Act → World → Prop} (hgd : o.guard = none) (d s : Operand) {t e : TypeId}
    (ho : o.op = .call { callee := .builtin .copy, args := #[d, s], argTypes := #[t, t] }) (ht : P.underlying t = some (.slice e)) (hi : (P.info? e).map (fun i => (i.zero, i.size, i.bytes)) = some (some (.int .u8 0), 1, 1))
    (g n c : Nat) (old : List UInt8) (hd : a.eval d = .slice (some ⟨g, 0, none⟩) n c) (hg : Blk w g e old) (A : Option Addr) (m cm : Nat) (news : List UInt8) (hs : a.eval s = .slice A m cm) (hr : RdS w A m cm news)
    (hm : m ≤ n) (hn : n ≤ old.length) (w0 : World) (hb : Below g w0 w)
    (hK : ∀ w', Blk w' g e (news ++ old.drop m) → Below g w0 w' → wpList P ops Q rest (a.put o.dst (goInt m)) w') : wpList P ops Q (o :: rest) a w := by
  obtain ⟨i, hi, _, hs1, _⟩ := info_parts hi
  have hl := hr.len
  have := wpList_copy_splice (P := P) (w := w) (ops := ops) (rest := rest) (o := o) (a := a) (Q := Q) hgd d s t t ho e ht (by rw [hi]; simp [hs1]) (some ⟨g, 0, none⟩) A n c m cm hd hs g 0 (cells old) e hg (cells news)
    (by rw [length_cells, hl]; exact (Nat.min_eq_left hm).symm) (fun h0 => ⟨rfl, by
      rw [length_cells] at h0
      obtain ⟨b, off, hA, _, hc⟩ := hr.2.2.2.2 (by omega)
      refine ⟨_, hA, fun j u hu => ?_⟩
      have hj : j < news.length := by
        rcases Nat.lt_or_ge j news.length with h | h
        · exact h
        · rw [List.getElem?_eq_none (by rw [length_cells]; exact h)] at hu; cases hu
      rw [Addr.add_lit, hc j (by omega)]
      rw [cells_at hj] at hu
      exact hu⟩) (by simp only [length_cells]; omega) (cells_one news) g w0 hb (Nat.le_refl _)
  rw [length_cells, hl] at this
  refine this fun w' hg' hb' => hK w' ?_ hb'
  have h2 := hg'.out
  unfold Blk
  rw [h2]
  simp [splice, cells, hl]
end

theorem own_form {w : World} {base : Nat} {e : TypeId} {v : Value} {n : Nat} {xs : List Value} (h : w.ownsRow base e 1 v n xs) : ∃ A c, v = .slice A n c := by
  rcases h.2 with ⟨rfl, rfl⟩ | ⟨g, cap, cur, rfl, _⟩
  · exact ⟨none, 0, rfl⟩
  · exact ⟨_, cap, rfl⟩
end Go.Proofs.YtacaempcbdekaaaDoor

namespace Go.Proofs.YtacaempcbdekaaaDoor
open Go.RowKit
set_option linter.unusedVariables false

theorem width_yes (n : Int) (w : World) (h1 : 1 ≤ n) (h2 : n ≤ 8) : Calls Tryd.prog 47 #[.int .i64 n] w fun e w' => e = .returned (.bool true) ∧ w = w' := by
  go_enter Tryd.func47, Tryd.ntmps47
  go_wp2
  go_ret
  exact ⟨rfl, rfl⟩
theorem width_no (n : Int) (w : World) (h : n < 1 ∨ 8 < n) : Calls Tryd.prog 47 #[.int .i64 n] w fun e w' => e = .returned (.bool false) ∧ w = w' := by
  rcases h with h | h
  · go_enter Tryd.func47, Tryd.ntmps47
    go_wp2
    go_ret
    exact ⟨rfl, rfl⟩
  · have h1 : 1 ≤ n := by omega
    have hd : decide (n ≤ 8) = false := by simp; omega
    go_enter Tryd.func47, Tryd.ntmps47
    go_wp2
    go_ret
    exact ⟨rfl, rfl⟩

theorem num_no (A : Option Addr) (nb c : Nat) (bs : List UInt8) (a n : Int) (w : World) (hr : RdS w A nb c bs) (h : n < 1 ∨ 8 < n ∨ a < 0 ∨ (nb : Int) - n < a) :
    Calls Tryd.prog 50 #[.slice A nb c, .int .i64 a, .int .i64 n] w fun e w' => e = .returned (.tuple #[.int .u64 0, .bool false]) ∧ w = w' := by
  have hs := hr.small
  by_cases h1 : n < 1 ∨ 8 < n
  · go_enter Tryd.func50, Tryd.ntmps50
    go_wp2_with (go_at_call 47; refine (width_no _ _ (by omega)).mono ?_; rintro e w' ⟨rfl, rfl⟩)
    go_ret2
    exact ⟨rfl, rfl⟩
  · have h2 : 1 ≤ n ∧ n ≤ 8 := by omega
    obtain ⟨h3, h4⟩ := h2
    by_cases h5 : a < 0
    · go_enter Tryd.func50, Tryd.ntmps50
      go_wp2_with (go_at_call 47; refine (width_yes _ _ (by omega) (by omega)).mono ?_; rintro e w' ⟨rfl, rfl⟩)
      go_ret2
      exact ⟨rfl, rfl⟩
    · have h6 : 0 ≤ a := by omega
      have h7 : (nb : Int) - n < a := by omega
      go_enter Tryd.func50, Tryd.ntmps50
      go_wp2_with (go_at_call 47; refine (width_yes _ _ (by omega) (by omega)).mono ?_; rintro e w' ⟨rfl, rfl⟩)
      go_ret2
      exact ⟨rfl, rfl⟩

theorem num_yes (A : Option Addr) (nb c : Nat) (bs : List UInt8) (p m : Nat) (w : World) (hr : RdS w A nb c bs) (h1 : 1 ≤ m) (h2 : m ≤ 8) (h3 : p + m ≤ nb) :
    Calls Tryd.prog 50 #[.slice A nb c, .int .i64 p, .int .i64 m] w fun e w' => e = .returned (.tuple #[.int .u64 (numb ((bs.drop p).take m)), .bool true]) ∧ w = w' := by
  have hs := hr.small
  have hlen := hr.len
  obtain ⟨b, off, rfl, hlt, hc⟩ := hr.2.2.2.2 (by omega)
  go_enter Tryd.func50, Tryd.ntmps50
  go_wp2_with (go_at_call 47; refine (width_yes _ _ (by omega) (by omega)).mono ?_; rintro e w' ⟨rfl, rfl⟩)
  go_loop [8, 26] (fun x i => ∃ k : Nat, k ≤ m ∧ i = .int .i64 k ∧ x = .int .u64 (numb ((bs.drop p).take k))) (fun _ i => m - (intOf i).toNat)
  case atStart => exact ⟨0, by omega, rfl, by simp [numb]⟩
  case round =>
    obtain ⟨k, hk, rfl, rfl⟩ := hrel
    by_cases hlt : k < m
    · have hcell := hc (p + k) (by omega)
      have hst := num_step (bs.drop p) k (by simp; omega) (by omega)
      have hg : (bs.drop p).getD k 0 = bs.getD (p + k) 0 := by simp [List.getD]
      rw [hg] at hst
      have HS := Lib.hid hst
      clear hst hg
      obtain ⟨y, hy⟩ : ∃ y : UInt8, y = bs.getD (p + k) 0 := ⟨_, rfl⟩
      rw [← hy] at hcell HS
      have HY := Lib.hid hy
      clear hy
      go_wp2
      go_round
      case rel => exact ⟨k + 1, by omega, by go_num, by rw [HS.out]⟩
      case measure => simp [intOf]; omega
    · have hkm : k = m := by omega
      subst hkm
      go_wp2
      go_ret2
      exact ⟨rfl, rfl⟩

theorem u8_info : (Tryd.prog.info? 5).map (fun i => (i.zero, i.size, i.bytes)) = some (some (.int .u8 0), 1, 1) := by kernel_rfl

theorem ext_any (A : Option Addr) (nb c : Nat) (bs : List UInt8) (m : Nat) (w : World) (hr : RdS w A nb c bs) (h : nb + m ≤ 140737488355328) :
    Calls Tryd.prog 48 #[.slice A nb c, .int .i64 m] w fun e w' => e = .returned (.slice (some ⟨w.heap.size, 0, none⟩) (nb + m) (nb + m)) ∧ Blk w' w.heap.size 5 (bs ++ List.replicate m 0) ∧ Below w.heap.size w w' := by
  have hl := hr.len
  have hmk := run_makeB (P := Tryd.prog) Tryd.underlying25 u8_info .i64 .i64 ((nb : Int) + m) ((nb : Int) + m) (nb + m) (by omega) (by omega) (by omega)
  go_enter Tryd.func48, Tryd.ntmps48
  go_wp2_with (with_reducible refine wpList_copy_rd _ rfl (.tmp 11) (.tmp 12) rfl Tryd.underlying25 u8_info w.heap.size (nb + m) (nb + m) (List.replicate (nb + m) 0) rfl (Blk.new w _ _) A nb c bs rfl (hr.below ((Below.refl _ _).alloc (Nat.le_refl _) _)) (Nat.le_add_right _ _) (by simp) w ((Below.refl _ _).alloc (Nat.le_refl _) _) ?_; intro w2 hB2 hb2)
  go_ret
  refine ⟨rfl, ?_, hb2⟩
  have e : (List.replicate (nb + m) (0 : UInt8)).drop nb = List.replicate m 0 := by simp
  rw [← e]
  exact hB2

theorem put_none (A : Option Addr) (nb c : Nat) (bs : List UInt8) (n : Int) (x : Nat) (w : World) (hr : RdS w A nb c bs) (h : n < 1 ∨ 8 < n) (hs : nb ≤ 140737488355328) :
    Calls Tryd.prog 34 #[.slice A nb c, .int .i64 n, .int .u64 x] w fun e w' => e = .returned (.slice (some ⟨w.heap.size, 0, none⟩) nb nb) ∧ Blk w' w.heap.size 5 bs ∧ Below w.heap.size w w' := by
  go_enter Tryd.func34, Tryd.ntmps34
  go_wp2_with (first
    | (go_at_call 47; refine (width_no _ _ (by omega)).mono ?_; rintro e w' ⟨rfl, rfl⟩)
    | (go_at_call 48; refine (ext_any A nb c bs 0 _ hr (by omega)).mono ?_; rintro e w' ⟨rfl, hB, hb⟩))
  go_ret
  exact ⟨rfl, by simpa using hB, hb⟩

theorem put_some (A : Option Addr) (nb c : Nat) (bs : List UInt8) (m x : Nat) (w : World) (hr : RdS w A nb c bs) (h1 : 1 ≤ m) (h2 : m ≤ 8) (hx : x < 18446744073709551616) (hs : nb ≤ 140737488355320) :
    Calls Tryd.prog 34 #[.slice A nb c, .int .i64 m, .int .u64 x] w fun e w' => e = .returned (.slice (some ⟨w.heap.size, 0, none⟩) (nb + m) (nb + m)) ∧ Blk w' w.heap.size 5 (bs ++ beb m x) ∧ Below w.heap.size w w' := by
  have hl := hr.len
  go_enter Tryd.func34, Tryd.ntmps34
  go_wp2_with (first
    | (go_at_call 47; refine (width_yes _ _ (by omega) (by omega)).mono ?_; rintro e w' ⟨rfl, rfl⟩)
    | (go_at_call 48; refine (ext_any A nb c bs m _ hr (by omega)).mono ?_; rintro e w1 ⟨rfl, hB, hb⟩))
  go_loopw [18] (fun i wr => ∃ k : Nat, k ≤ m ∧ i = .int .i64 k ∧ Blk wr w.heap.size 5 (fillB bs (beb m x) m k) ∧ Below w.heap.size w wr) (fun i _ => m - (intOf i).toNat)
  case atStart => exact ⟨0, by omega, rfl, by rw [fillB_zero _ _ _ (length_beb _ _)]; exact hB, hb⟩
  case round =>
    obtain ⟨k, hk, rfl, hBr, hbr⟩ := hrel
    by_cases hlt : k < m
    · have hlf : (fillB bs (beb m x) m k).length = nb + m := by rw [length_fillB _ _ _ _ (length_beb _ _), hl]
      have hcell := hBr.cell (j := nb + m - 1 - k) (by omega)
      have hfr := hBr.frozen (nb + m - 1 - k)
      have hst : Blk (wr.setCell ⟨w.heap.size, nb + m - 1 - k, none⟩ (.int .u8 ((x : Int) / 2 ^ (8 * k) % 256))) w.heap.size 5 (fillB bs (beb m x) m (k + 1)) := by
        rw [byte_of, ← fillB_step bs (beb m x) m k (length_beb _ _) hlt (UInt8.ofNat (x / 256 ^ k)) (by rw [beb_at _ _ _ (by omega)]; congr 3; omega), show bs.length + (m - 1 - k) = nb + m - 1 - k by omega]
        exact hBr.set_ _ _
      have hbs := hbr.setCell (p := ⟨w.heap.size, nb + m - 1 - k, none⟩) (Nat.le_refl _) (.int .u8 ((x : Int) / 2 ^ (8 * k) % 256))
      have HL := Lib.hid hlf
      clear hlf
      obtain ⟨y, hy⟩ : ∃ y : Value, y = (.int .u8 (((fillB bs (beb m x) m k).getD (nb + m - 1 - k) 0).toNat : Int)) := ⟨_, rfl⟩
      rw [← hy] at hcell
      clear hy
      go_wp2
      go_roundw
      case rel => exact ⟨k + 1, by omega, by go_num, hst, hbs⟩
      case measure => simp [intOf]; omega
    · have hkm : k = m := by omega
      subst hkm
      go_wp2
      go_ret
      exact ⟨rfl, by simpa [fillB_all] using hBr, hbr⟩

end Go.Proofs.YtacaempcbdekaaaDoor

namespace Go.Proofs.YtacaempcbdekaaaDoor
open Go.RowKit

/-- Block g is just these cells. -/
def BlkV (w : World) (g : Nat) (e : TypeId) (cs : List Value) : Prop := w.heap[g]? = some (.cells cs.toArray e (0, 0))
/-- Nothing but block g may have turned; no block has come. -/
structure Only (g : Nat) (w w' : World) : Prop where
  os : w'.os = w.os
  tape : w'.tape = w.tape
  output : w'.output = w.output
  size : w'.heap.size = w.heap.size
  block : ∀ k, k ≠ g → w'.heap[k]? = w.heap[k]?
section
variable {w w' w'' : World} {g : Nat} {e : TypeId} {cs : List Value}
theorem Only.refl (g : Nat) (w : World) : Only g w w := ⟨rfl, rfl, rfl, rfl, fun _ _ => rfl⟩
theorem Only.trans (h : Only g w w') (k : Only g w' w'') : Only g w w'' := ⟨k.os.trans h.os, k.tape.trans h.tape, k.output.trans h.output, k.size.trans h.size, fun i hi => (k.block i hi).trans (h.block i hi)⟩
theorem Only.set (w : World) (g j : Nat) (v : Value) : Only g w (w.setCell ⟨g, j, none⟩ v) := ⟨rfl, rfl, rfl, by simp [World.setCell], fun k hk => Below.heap_setCell _ _ _ _ hk⟩
theorem Only.row (w : World) (g : Nat) (C : Array Value) : Only g w (w.setRow g C) := ⟨rfl, rfl, rfl, by simp, fun k hk => setRow_other w g k C hk⟩
theorem Only.below {B : Nat} (h : Only g w w') (hB : B ≤ g) : Below B w w' := ⟨h.os, h.tape, h.output, by rw [h.size]; exact Nat.le_refl _, fun k hk => h.block k (by omega)⟩
theorem Only.grown (h : Only g w w') : w.grownBy w' (some g) := ⟨h.os, h.tape, h.output, by rw [h.size]; exact Nat.le_refl _, fun k _ hk => h.block k (fun e => hk (by rw [e]))⟩
theorem grown_of_below (h : Below w.heap.size w w') (row : Option Nat) : w.grownBy w' row := ⟨h.os, h.tape, h.output, h.size, fun k hk _ => h.block k hk⟩
theorem below_of_grown {row : Option Nat} {B : Nat} (h : w.grownBy w' row) (hB : B ≤ w.heap.size) (hr : ∀ k, row = some k → B ≤ k) : Below B w w' := (Below.refl B w).grown h hB hr

theorem BlkV.lt (h : BlkV w g e cs) : g < w.heap.size := (Array.getElem?_eq_some_iff.1 h).1
theorem BlkV.cell (h : BlkV w g e cs) (j : Nat) : w.cell? ⟨g, j, none⟩ = cs[j]? := by
  rw [cell_of_row w g j _ e (0, 0) h]; simp
theorem BlkV.frozen (h : BlkV w g e cs) (j : Nat) : w.frozen? ⟨g, j, none⟩ = false := frozen_of_row w g j _ e h
theorem BlkV.drew (h : BlkV w g e cs) : BlkV w.drew g e cs := h
theorem BlkV.alloc (h : BlkV w g e cs) (o : Obj) : BlkV (w.alloc o) g e cs := (Below.heap_alloc w o g h.lt).trans h
theorem BlkV.set_ (h : BlkV w g e cs) (j : Nat) (v : Value) : BlkV (w.setCell ⟨g, j, none⟩ v) g e (cs.set j v) := by
  have := heap_setCell_same w g j cs.toArray e v h
  unfold BlkV
  rw [this]
  simp
theorem BlkV.far (h : BlkV w g e cs) {p : Addr} (hp : g ≠ p.block) (u : Value) : BlkV (w.setCell p u) g e cs := (Below.heap_setCell w p u g hp).trans h
theorem BlkV.below {B : Nat} (h : BlkV w g e cs) (hb : Below B w w') (hg : g < B) : BlkV w' g e cs := (hb.block g hg).trans h
theorem BlkV.grown {row : Option Nat} (h : BlkV w g e cs) (hb : w.grownBy w' row) (hg : some g ≠ row) : BlkV w' g e cs := (hb.block g h.lt hg).trans h
theorem BlkV.only {k : Nat} (h : BlkV w g e cs) (hb : Only k w w') (hg : g ≠ k) : BlkV w' g e cs := (hb.block g hg).trans h
theorem BlkV.new_at (w : World) (g : Nat) (e : TypeId) (cs : List Value) (C : Array Value) (hg : w.heap.size = g) (hC : C = cs.toArray) : BlkV (w.alloc (.cells C e)) g e cs := by
  subst hg; subst hC; exact heap_alloc_new w _
theorem BlkV.new (w : World) (e : TypeId) (cs : List Value) : BlkV (w.alloc (.cells cs.toArray e)) w.heap.size e cs := heap_alloc_new w _
theorem BlkV.range (h : BlkV w g e cs) (j : Nat) (ds : List Value) (hd : ∀ i, i < ds.length → cs[j + i]? = ds[i]?) : w.rangeAt g j ds := fun i v hv => by
  rw [h.cell, hd i (List.getElem?_eq_some_iff.1 hv).1]; exact hv
theorem BlkV.there (h : BlkV w g e cs) (j n : Nat) (hn : j + n ≤ cs.length) : w.there g j n := fun i hi => by
  rw [h.cell, h.frozen]
  exact ⟨by rw [List.getElem?_eq_getElem (by omega)]; rfl, rfl⟩
theorem BlkV.row (h : BlkV w g e cs) (ds : List Value) : BlkV (w.setRow g ds.toArray) g e ds := setRow_heap w g _ _ _ _ h
theorem Blk.v {bs : List UInt8} (h : Blk w g e bs) : BlkV w g e (cells bs) := h
theorem Blk.new_at (w : World) (g : Nat) (e : TypeId) (bs : List UInt8) (C : Array Value) (hg : w.heap.size = g) (hC : C = (cells bs).toArray) : Blk (w.alloc (.cells C e)) g e bs := by
  subst hg; subst hC; exact Blk.new w e bs

theorem splice_cons {α : Type} (L : List α) (o : Nat) (v : α) (r : List α) (h : o < L.length) : splice (L.set o v) (o + 1) r = splice L o (v :: r) := by
  unfold splice
  have e1 : (L.set o v).take (o + 1) = L.take o ++ [v] := by
    rw [List.take_succ_eq_append_getElem (by simpa using h), List.take_set, List.set_eq_of_length_le (by simp; omega)]
    simp
  have e2 : (L.set o v).drop (o + 1 + r.length) = L.drop (o + (v :: r).length) := by
    rw [List.drop_set_of_lt (by omega), List.length_cons]
    congr 1
    omega
  rw [e1, e2]
  simp
theorem set_cells (g : Nat) : ∀ (vs : List Value) (o : Nat) (w : World) (cs : List Value), BlkV w g e cs → o + vs.length ≤ cs.length → BlkV (w.setCells g o vs) g e (splice cs o vs) ∧ Only g w (w.setCells g o vs)
  | [], o, w, cs, h, _ => by
    refine ⟨?_, Only.refl _ _⟩
    have : splice cs o ([] : List Value) = cs := by simp [splice]
    rw [this]; exact h
  | v :: r, o, w, cs, h, hl => by
    have h1 := set_cells g r (o + 1) (w.setCell ⟨g, o, none⟩ v) (cs.set o v) (h.set_ o v) (by simp at hl ⊢; omega)
    rw [splice_cons cs o v r (by simp at hl; omega)] at h1
    exact ⟨h1.1, (Only.set w g o v).trans h1.2⟩
end

/-- ty is an array or a struct of n cells. -/
def RowTy (P : Program) (ty : TypeId) (n : Nat) : Prop := ∃ d, P.underlying ty = some d ∧ d.isRow = true ∧ (P.info? ty).map (·.size) = some n

section
variable {P : Program} {w : World} {ops : Array Oper} {rest : List Oper} {op : Oper} {a : Act} {Q : Exit → Act → World → Prop}
/-- A whole array is read, wherever it lies. -/
theorem wpList_ld (hgd : op.guard = none) (ty : TypeId) (x : Operand) (ho : op.op = .load ty x) (b o : Nat) (hx : a.eval x = .pointer (some ⟨b, o, none⟩)) (cs : List Value) (hc : w.rangeAt b o cs) (hT : RowTy P ty cs.length)
    (h : wpList P ops Q rest (a.put op.dst (.agg cs.toArray)) w) : wpList P ops Q (op :: rest) a w := by
  obtain ⟨d, h1, h2, h3⟩ := hT
  exact wpList_load_mid hgd ty x ho b o hx cs d hc h1 h2 h3 h
/-- A whole array is laid into a block that is known whole. -/
theorem wpList_st (hgd : op.guard = none) (ty : TypeId) (x y : Operand) (ho : op.op = .store ty x y) (g o : Nat) (ds : List Value) (hx : a.eval x = .pointer (some ⟨g, o, none⟩)) (hy : a.eval y = .agg ds.toArray)
    (e : TypeId) (cs : List Value) (hg : BlkV w g e cs) (hfit : o + ds.length ≤ cs.length) (hT : RowTy P ty ds.length) (h1 : ∀ v ∈ ds, v.oneCell' = true)
    (h : ∀ w', BlkV w' g e (splice cs o ds) → Only g w w' → wpList P ops Q rest (a.put op.dst undef) w') : wpList P ops Q (op :: rest) a w := by
  obtain ⟨d, _, _, h3⟩ := hT
  have hh := set_cells g ds o w cs hg hfit
  refine wpList_store_mid hgd ty x y ho g o ds.toArray hx hy (by simpa using hg.there o ds.length hfit) (by simpa using h3) (all_oneCell_toArray h1) ?_
  exact h _ hh.1 hh.2
/-- copy over the cells from place o on of a block that is known whole. -/
theorem wpList_cp (hgd : op.guard = none) (d s : Operand) {t e : TypeId} (ho : op.op = .call { callee := .builtin .copy, args := #[d, s], argTypes := #[t, t] }) (ht : P.underlying t = some (.slice e)) (hi : (P.info? e).map (fun i => (i.zero, i.size, i.bytes)) = some (some (.int .u8 0), 1, 1))
    (g o n c : Nat) (tb : TypeId) (cs : List Value) (hd : a.eval d = .slice (some ⟨g, o, none⟩) n c) (hg : BlkV w g tb cs) (A : Option Addr) (m cm : Nat) (news : List UInt8) (hs : a.eval s = .slice A m cm) (hr : RdS w A m cm news)
    (hn : o + n ≤ cs.length) (k : Nat) (hk : k = min m n) (hpos : 0 < k)
    (h : ∀ w', BlkV w' g tb (splice cs o (cells (news.take k))) → Only g w w' → wpList P ops Q rest (a.put op.dst (.int .i64 (k : Int))) w') : wpList P ops Q (op :: rest) a w := by
  obtain ⟨i, hi, _, hs1, _⟩ := info_parts hi
  have hl := hr.len
  obtain ⟨b, off, rfl, _, hc⟩ := hr.2.2.2.2 (by omega)
  have hlen : (cells (news.take k)).length = k := by rw [length_cells, List.length_take]; omega
  have := wpList_copy_own (P := P) (w := w) (ops := ops) (rest := rest) (o := op) (a := a) (Q := Q) hgd d s t t ho e ht (by rw [hi]; simp [hs1]) g o n c ⟨b, off, none⟩ m cm hd hs cs.toArray tb hg (cells (news.take k))
    (by rw [hlen, hk]) (fun j v hv => by
      have hj : j < k := by
        have := (List.getElem?_eq_some_iff.1 hv).1
        omega
      rw [Addr.add_lit, hc j (by omega)]
      rw [cells_at (by rw [List.length_take]; omega)] at hv
      rw [← hv]
      simp [List.getD, hj]) (by rw [hlen, List.size_toArray]; omega) (cells_one _)
  rw [hlen] at this
  refine this (h _ ?_ (Only.row _ _ _))
  have h2 := hg.row (splice cs o (cells (news.take k)))
  simpa [splice, hlen] using h2
end

theorem splice_all {α : Type} (L cs : List α) (h : L.length = cs.length) : splice L 0 cs = cs := by simp [splice, ← h]
/-- An array is handed back. -/
theorem ret_row {P : Program} {fn : Func} {R : Ending → World → Prop} {a : Act} {w : World} {p : Tmp} {ty e : TypeId} {g : Nat} {cs : List Value} (h : fn.results = #[.cell p ty]) (hp : a.tmps.getD p undef = .pointer (some ⟨g, 0, none⟩))
    (hB : BlkV w g e cs) (hT : RowTy P ty cs.length) (hd : a.defers = []) (hR : R (.returned (.agg cs.toArray)) w) : bodyPost P fn R .ret a w := by
  obtain ⟨d, h1, h2, h3⟩ := hT
  refine bodyPost_ret (results_cell_row h a.tmps w g e cs.toArray (0, 0) d hp hB h1 ?_ (by simpa using h3)) hd hR
  cases d <;> simp_all

/-- A whole array is read in a region that draws its order and only reads so far. -/
theorem wpStill_ld {P : Program} {w : World} {ops : Array Oper} {rest : List Oper} {op : Oper} {a : Act} {Q : Act → Prop} (hgd : op.guard = none) (ty : TypeId) (x : Operand) (ho : op.op = .load ty x) (b o : Nat) (hx : a.eval x = .pointer (some ⟨b, o, none⟩)) (cs : List Value) (hc : w.rangeAt b o cs) (hT : RowTy P ty cs.length)
    (h : wpStill P ops w Q rest (a.put op.dst (.agg cs.toArray))) : wpStill P ops w Q (op :: rest) a := by
  obtain ⟨d, h1, h2, h3⟩ := hT
  refine wpStill_step fun K hK => ?_
  rw [if_pos (by simp [Region.wanted, hgd])]
  unfold Oper.still execOp
  simp only [ho, hx, Instr.loadAt, Instr.sureAddr, Sem.run_bind, Sem.run_pure, Result.andThen_ok, run_loadVar_mid w b o ty cs d hc h1 h2 h3, Oper.stillUpon_value]
  exact hK _ h

section
variable {P : Program} {md : Region.Mode} {ops : Array Oper} {Q : Exit → Act → World → Prop}
/-- One operation alone may come up. -/
theorem any_one {i : Nat} {op : Oper} {fuel : Nat} {listed : Array Bool} {a : Act} {w : World} (hr : Region.ready md ops listed = [i]) (ho : ops[i]? = some op) (hgd : op.guard = none)
    (h : ∀ K : Act → World → Prop, (∀ a w, wpAny P md ops Q fuel (listed.setIfInBounds i true) a w → K a w) → op.wp P a w K Q) : wpAny P md ops Q (fuel + 1) listed a w :=
  wpAny_ready hr (by simp) (AllReady.cons ho (fun K hK => by rw [if_pos (by simp [Region.wanted, hgd])]; exact h K hK) AllReady.nil)
/-- One of two may come up. -/
theorem any_two {i j : Nat} {op oq : Oper} {fuel : Nat} {listed : Array Bool} {a : Act} {w : World} (hr : Region.ready md ops listed = [i, j]) (ho : ops[i]? = some op) (hgd : op.guard = none) (hoq : ops[j]? = some oq) (hgq : oq.guard = none)
    (h : ∀ K : Act → World → Prop, (∀ a w, wpAny P md ops Q fuel (listed.setIfInBounds i true) a w → K a w) → op.wp P a w K Q)
    (h2 : ∀ K : Act → World → Prop, (∀ a w, wpAny P md ops Q fuel (listed.setIfInBounds j true) a w → K a w) → oq.wp P a w K Q) : wpAny P md ops Q (fuel + 1) listed a w :=
  wpAny_ready hr (by simp) (AllReady.cons ho (fun K hK => by rw [if_pos (by simp [Region.wanted, hgd])]; exact h K hK) (AllReady.cons hoq (fun K hK => by rw [if_pos (by simp [Region.wanted, hgq])]; exact h2 K hK) AllReady.nil))
theorem wp_ld {op : Oper} {a : Act} {w : World} {K : Act → World → Prop} (ty : TypeId) (x : Operand) (ho : op.op = .load ty x) (b o : Nat) (hx : a.eval x = .pointer (some ⟨b, o, none⟩)) (cs : List Value) (hc : w.rangeAt b o cs) (hT : RowTy P ty cs.length)
    (h : K (a.put op.dst (.agg cs.toArray)) w) : op.wp P a w K Q := by
  obtain ⟨d, h1, h2, h3⟩ := hT
  exact wp_load_mid ty x ho b o hx cs d hc h1 h2 h3 h
theorem wp_st {op : Oper} {a : Act} {w : World} {K : Act → World → Prop} (ty : TypeId) (x y : Operand) (ho : op.op = .store ty x y) (g o : Nat) (ds : List Value) (hx : a.eval x = .pointer (some ⟨g, o, none⟩)) (hy : a.eval y = .agg ds.toArray)
    (e : TypeId) (cs : List Value) (hg : BlkV w g e cs) (hfit : o + ds.length ≤ cs.length) (hT : RowTy P ty ds.length) (h1 : ∀ v ∈ ds, v.oneCell' = true)
    (h : ∀ w', BlkV w' g e (splice cs o ds) → Only g w w' → K (a.put op.dst undef) w') : op.wp P a w K Q := by
  obtain ⟨d, _, _, h3⟩ := hT
  have hh := set_cells g ds o w cs hg hfit
  exact wp_store_mid ty x y ho g o ds.toArray hx hy (by simpa using hg.there o ds.length hfit) (by simpa using h3) (all_oneCell_toArray h1) (h _ hh.1 hh.2)
end

/-- A slice of bytes none of which lies in block p. -/
def Off (A : Option Addr) (p : Nat) : Prop := ∀ ad, A = some ad → ad.block ≠ p
/-- .. if there is one at all. -/
def OffN (A : Option Addr) (n p : Nat) : Prop := 0 < n → Off A p
theorem RdS.keep {w w' : World} {A : Option Addr} {n c : Nat} {bs : List UInt8} (h : RdS w A n c bs) {row : Option Nat} (hg : w.grownBy w' row) (ho : ∀ p, row = some p → OffN A n p) : RdS w' A n c bs := by
  refine ⟨h.1, h.2.1, h.2.2.1, h.2.2.2.1, fun hn => ?_⟩
  obtain ⟨b, off, hA, hlt, hc⟩ := h.2.2.2.2 hn
  refine ⟨b, off, hA, Nat.lt_of_lt_of_le hlt hg.size, fun j hj => ?_⟩
  exact (World.cell?_of_block (w := w) (a := ⟨b, off + j, none⟩) (hg.block b hlt (fun e => ho b e.symm hn _ hA rfl))).trans (hc j hj)
theorem RdS.off_lt {w : World} {A : Option Addr} {n c : Nat} {bs : List UInt8} (h : RdS w A n c bs) {p : Nat} (hp : w.heap.size ≤ p) : OffN A n p := by
  intro hn
  obtain ⟨b, off, rfl, hlt, _⟩ := h.2.2.2.2 hn
  intro ad hA
  injection hA with hA
  subst hA
  show b ≠ p
  omega

theorem add_lit (b o k : Nat) : (⟨b, o, none⟩ : Addr).add k = ⟨b, o + k, none⟩ := by unfold Addr.add; split <;> simp_all
/-- What is left of a slice behind its first k bytes. -/
theorem RdS.cut {w : World} {A : Option Addr} {n c : Nat} {bs : List UInt8} (h : RdS w A n c bs) (k : Nat) (hk : k ≤ n) :
    RdS w (if c = k then A else A.map (·.add (k * 1))) (n - k) (c - k) (bs.drop k) := by
  obtain ⟨h1, h2, h3, h4, h5⟩ := h
  refine ⟨by rw [List.length_drop, h1], by omega, by omega, fun h0 => ?_, fun hn => ?_⟩
  · split at h0
    · omega
    · have : A = none := by cases A <;> simp_all
      have := h4 this
      omega
  · obtain ⟨b, off, rfl, hlt, hc⟩ := h5 (by omega)
    rw [if_neg (by omega)]
    refine ⟨b, off + k, by simp [add_lit], hlt, fun j hj => ?_⟩
    have := hc (k + j) (by omega)
    rw [show off + k + j = off + (k + j) by omega, this]
    simp [List.getD]
theorem Off.cut {A : Option Addr} {p : Nat} (h : Off A p) (k c : Nat) : Off (if c = k then A else A.map (·.add (k * 1))) p := by
  split
  · exact h
  · intro ad hA
    cases A with
    | none => simp at hA
    | some x =>
      simp only [Option.map_some, Option.some.injEq] at hA
      subst hA
      have : (x.add (k * 1)).block = x.block := by unfold Addr.add; split <;> rfl
      rw [this]
      exact h x rfl
section
variable {P : Program} {w : World} {ops : Array Oper} {rest : List Oper} {op : Oper} {a : Act} {Q : Exit → Act → World → Prop}
/-- 'b[k:]' of a slice that reads. -/
theorem wpList_cut (hgd : op.guard = none) (t : TypeId) (x lo : Operand) (ho : op.op = .slice t x (some lo) none none) (ht : P.underlying t = some (.slice (P.elem t))) (hs : ∀ w, (sizeOf (P.elem t)).run P w = .ok 1 w)
    (A : Option Addr) (n c : Nat) (bs : List UInt8) (hx : a.eval x = .slice A n c) (k : Nat) (i : Int) (hlo : a.eval lo = .int .i64 i) (hik : i = (k : Int)) (hr : RdS w A n c bs) (hk : k ≤ n)
    (h : ∀ A2, RdS w A2 (n - k) (c - k) (bs.drop k) → (∀ p, Off A p → Off A2 p) → wpList P ops Q rest (a.put op.dst (.slice A2 (n - k) (c - k))) w) : wpList P ops Q (op :: rest) a w := by
  subst hik
  refine wpList_plain hgd fun K hK => ?_
  unfold Oper.wp execOp
  simp only [ho, hx, Option.map_some, Option.map_none, hlo, run_sliceAt_slice _ _ _ _ _ _ ht, Sem.run_bind, run_slice_l w t A n c ht .i64 (k : Int) (by omega) (by omega), hs, Result.andThen_ok, Sem.run_pure, sliced, Int.toNat_natCast]
  exact hK _ _ (h _ (hr.cut k hk) (fun p hp => hp.cut k c))
/-- 'arr[k:]' of an array that lies at o of block g. -/
theorem wpList_acut (hgd : op.guard = none) (t : TypeId) (x lo : Operand) (ho : op.op = .slice t x (some lo) none none) (ht : P.underlying t = some (.array (P.arrayLen t) (P.elem t))) (hs : ∀ w, (sizeOf (P.elem t)).run P w = .ok 1 w)
    (N : Nat) (hN : P.arrayLen t = N) (g o : Nat) (hx : a.eval x = .pointer (some ⟨g, o, none⟩)) (k : Nat) (i : Int) (hlo : a.eval lo = .int .i64 i) (hik : i = (k : Int)) (hk : k < N)
    (h : wpList P ops Q rest (a.put op.dst (.slice (some ⟨g, o + k, none⟩) (N - k) (N - k))) w) : wpList P ops Q (op :: rest) a w := by
  subst hik
  refine wpList_plain hgd fun K hK => ?_
  unfold Oper.wp execOp
  simp only [ho, hx, Option.map_some, Option.map_none, hlo, Sem.run_bind, run_sliceAt_array_l w t ⟨g, o, none⟩ ht .i64 (k : Int) (by omega) (by omega), hs, Result.andThen_ok, Sem.run_pure, slicedAt, Int.toNat_natCast, hN, add_lit, Nat.mul_one]
  rw [if_neg (by omega)]
  exact hK _ _ h
end

theorem run_eql_cells {P : Program} (w : World) (t e : TypeId) (n : Nat) (ht : P.underlying t = some (.array n e)) (he : P.underlying e = some (.int .u8)) (hi : (P.info? e).map (·.size) = some 1)
    (xs ys : List UInt8) (hx : xs.length = n) (hy : ys.length = n) : (binOp .eql t (.agg (cells xs).toArray) (.agg (cells ys).toArray)).run P w = .ok (.bool (xs == ys)) w := by
  refine run_eql_bytes w t e n ht he (fun w => ?_) xs ys hx hy
  cases hq : P.info? e with
  | none => simp [hq] at hi
  | some i =>
    have hs : i.size = 1 := by simpa [hq] using hi
    simp [sizeOf, typeInfo, hq, hs]
end Go.Proofs.YtacaempcbdekaaaDoor

namespace Go.Proofs.YtacaempcbdekaaaDoor
set_option linter.unusedVariables false

/-- What the first n bits of a loss tell. -/
def nkT (s b n : Nat) : List Nat := (List.range n).filterMap fun k => if b.testBit k = true then some ((s + k + 1) % 65536) else none
theorem nkT_succ (s b n : Nat) : nkT s b (n + 1) = nkT s b n ++ (if b.testBit n = true then [(s + n + 1) % 65536] else []) := by
  unfold nkT
  rw [List.range_succ, List.filterMap_append]
  congr 1
  cases h : b.testBit n <;> simp [h]
theorem nkT_zero (s n : Nat) : nkT s 0 n = [] := by
  induction n with
  | zero => rfl
  | succ n ih => rw [nkT_succ, ih]; simp
theorem nkT_or (s b j n : Nat) (h : b < 2 ^ j) : nkT s (b ||| 2 ^ j) n = nkT s b n ++ (if j < n then [(s + j + 1) % 65536] else []) := by
  induction n with
  | zero => simp [nkT]
  | succ n ih =>
    rw [nkT_succ, nkT_succ, ih, Nat.testBit_or, Nat.testBit_two_pow]
    rcases Nat.lt_trichotomy n j with hn | hn | hn
    · have e : decide (j = n) = false := by simp; omega
      have n1 : ¬ j < n := by omega
      have n2 : ¬ j < n + 1 := by omega
      simp [e, n1, n2]
    · subst hn
      simp [Nat.testBit_lt_two_pow h]
    · have hb : b.testBit n = false := Nat.testBit_lt_two_pow (Nat.lt_of_lt_of_le h (Nat.pow_le_pow_right (by omega) (by omega)))
      have e : decide (j = n) = false := by simp; omega
      have n2 : j < n + 1 := by omega
      simp [e, hn, n2, hb]
/-- The numbers that one loss tells. -/
def nk1 (x : Nat × Nat) : List Nat := x.1 :: nkT x.1 x.2 16
/-- The numbers that losses tell. -/
def nkL (l : List (Nat × Nat)) : List Nat := l.flatMap nk1
theorem nkL_snoc (l : List (Nat × Nat)) (x : Nat × Nat) : nkL (l ++ [x]) = nkL l ++ nk1 x := by simp [nkL]
theorem nkL_len (l : List (Nat × Nat)) : (nkL l).length ≤ 17 * l.length := by
  induction l with
  | nil => simp [nkL]
  | cons a r ih =>
    have h1 : nkL (a :: r) = nk1 a ++ nkL r := by simp [nkL]
    have h2 : (nk1 a).length ≤ 17 := by
      unfold nk1 nkT
      have := List.length_filterMap_le (fun k => if a.2.testBit k = true then some ((a.1 + k + 1) % 65536) else none) (List.range 16)
      simp only [List.length_cons, List.length_range] at this ⊢
      omega
    rw [h1, List.length_append, List.length_cons]
    omega

/-- How far a number is behind another. -/
def far (s x : Nat) : Nat := (x + 65536 - s) % 65536
/-- One number more. -/
def lsS (out : List (Nat × Nat)) (x : Nat) : List (Nat × Nat) := match out.getLast? with
  | some (s, b) => if 1 ≤ far s x ∧ far s x ≤ 16 then out.dropLast ++ [(s, b ||| 2 ^ (far s x - 1))] else out ++ [(x, 0)]
  | none => [(x, 0)]
/-- The losses of numbers. -/
def lsL (l : List Nat) : List (Nat × Nat) := l.foldl lsS []
theorem lsL_snoc (l : List Nat) (x : Nat) : lsL (l ++ [x]) = lsS (lsL l) x := by simp [lsL, List.foldl_append]
theorem lsS_nil (x : Nat) : lsS [] x = [(x, 0)] := rfl
theorem lsS_in (out : List (Nat × Nat)) (s b x : Nat) (h1 : 1 ≤ far s x) (h2 : far s x ≤ 16) : lsS (out ++ [(s, b)]) x = out ++ [(s, b ||| 2 ^ (far s x - 1))] := by
  unfold lsS
  rw [List.getLast?_concat, List.dropLast_concat]
  simp only
  rw [if_pos ⟨h1, h2⟩]
theorem lsS_new (out : List (Nat × Nat)) (s b x : Nat) (h : ¬ (1 ≤ far s x ∧ far s x ≤ 16)) : lsS (out ++ [(s, b)]) x = (out ++ [(s, b)]) ++ [(x, 0)] := by
  unfold lsS
  rw [List.getLast?_concat]
  simp only
  rw [if_neg h]
theorem lsL_len (l : List Nat) : (lsL l).length ≤ l.length := by
  have key : ∀ (out : List (Nat × Nat)) (x : Nat), (lsS out x).length ≤ out.length + 1 := by
    intro out x
    rcases List.eq_nil_or_concat out with rfl | ⟨o, a, rfl⟩
    · simp [lsS]
    · rw [List.concat_eq_append]
      obtain ⟨s, b⟩ := a
      by_cases h : 1 ≤ far s x ∧ far s x ≤ 16
      · rw [lsS_in o s b x h.1 h.2]; simp
      · rw [lsS_new o s b x h]; simp
  have go : ∀ (l : List Nat) (out : List (Nat × Nat)), (l.foldl lsS out).length ≤ out.length + l.length := by
    intro l
    induction l with
    | nil => intro out; simp
    | cons a r ih => intro out; have h1 := ih (lsS out a); have h2 := key out a; simp only [List.foldl_cons, List.length_cons]; omega
  simpa [lsL] using go l []
/-- Every number of a loss fits its field. -/
theorem lsL_fit (l : List Nat) (hf : ∀ x ∈ l, x < 65536) : ∀ a ∈ lsL l, a.1 < 65536 ∧ a.2 < 65536 := by
  have key : ∀ (out : List (Nat × Nat)) (x : Nat), x < 65536 → (∀ a ∈ out, a.1 < 65536 ∧ a.2 < 65536) → ∀ a ∈ lsS out x, a.1 < 65536 ∧ a.2 < 65536 := by
    intro out x hx ho
    rcases List.eq_nil_or_concat out with rfl | ⟨o, a, rfl⟩
    · intro a ha
      rw [lsS_nil, List.mem_singleton] at ha
      subst ha
      exact ⟨hx, (by decide : (0 : Nat) < 65536)⟩
    · rw [List.concat_eq_append] at ho ⊢
      obtain ⟨s, b⟩ := a
      have hl := ho (s, b) (by simp)
      by_cases h : 1 ≤ far s x ∧ far s x ≤ 16
      · rw [lsS_in o s b x h.1 h.2]
        intro a ha
        rcases List.mem_append.1 ha with ha | ha
        · exact ho a (List.mem_append_left _ ha)
        · rw [List.mem_singleton] at ha
          subst ha
          refine ⟨hl.1, ?_⟩
          have h2 : (2 : Nat) ^ (far s x - 1) < 2 ^ 16 := Nat.pow_lt_pow_right (by omega) (by omega)
          exact Nat.or_lt_two_pow (n := 16) hl.2 h2
      · rw [lsS_new o s b x h]
        intro a ha
        rcases List.mem_append.1 ha with ha | ha
        · exact ho a ha
        · rw [List.mem_singleton] at ha
          subst ha
          exact ⟨hx, (by decide : (0 : Nat) < 65536)⟩
  have go : ∀ (l : List Nat) (out : List (Nat × Nat)), (∀ x ∈ l, x < 65536) → (∀ a ∈ out, a.1 < 65536 ∧ a.2 < 65536) → ∀ a ∈ l.foldl lsS out, a.1 < 65536 ∧ a.2 < 65536 := by
    intro l
    induction l with
    | nil => intro out _ ho; exact ho
    | cons a r ih =>
      intro out hl ho
      exact ih (lsS out a) (fun x hx => hl x (List.mem_cons_of_mem _ hx)) (key out a (hl a List.mem_cons_self) ho)
  exact go l [] hf (by simp)

/-- The numbers rise. -/
def rises (l : List Nat) : Prop := ∀ i, i + 1 < l.length → l.getD i 0 < l.getD (i + 1) 0
theorem far_of (s x : Nat) (h : s < x) (hx : x < 65536) : far s x = x - s := by unfold far; omega
/-- There and back. -/
theorem nk_ls (l : List Nat) (hf : ∀ x ∈ l, x < 65536) (hr : rises l) : nkL (lsL l) = l := by
  have key : ∀ k, k ≤ l.length → nkL (lsL (l.take k)) = l.take k ∧ (0 < k → ∃ out s b, lsL (l.take k) = out ++ [(s, b)] ∧ s ≤ l.getD (k - 1) 0 ∧ l.getD (k - 1) 0 - s ≤ 16 ∧ b < 2 ^ (l.getD (k - 1) 0 - s)) := by
    intro k
    induction k with
    | zero => intro _; exact ⟨by simp [lsL, nkL], fun h => absurd h (by omega)⟩
    | succ k ih =>
      intro hk
      obtain ⟨i1, i2⟩ := ih (by omega)
      have hsn : l.take (k + 1) = l.take k ++ [l.getD k 0] := by
        rw [List.take_add_one, List.getD, List.getElem?_eq_getElem (by omega)]; rfl
      obtain ⟨x, hx⟩ : ∃ x, x = l.getD k 0 := ⟨_, rfl⟩
      have hxl : x < 65536 := by
        rw [hx, List.getD, List.getElem?_eq_getElem (by omega)]
        exact hf _ (List.getElem_mem _)
      rw [hsn, lsL_snoc, Nat.add_sub_cancel, ← hx]
      rcases Nat.eq_zero_or_pos k with h0 | h0
      · subst h0
        have e : lsL (l.take 0) = [] := by simp [lsL]
        rw [e, lsS_nil]
        refine ⟨?_, fun _ => ⟨[], x, 0, rfl, Nat.le_refl _, by omega, by simp⟩⟩
        simp [nkL, nk1, nkT_zero]
      · obtain ⟨out, s, b, e, h1, h2, h3⟩ := i2 h0
        have hlt : l.getD (k - 1) 0 < x := by
          have := hr (k - 1) (by omega)
          rw [show k - 1 + 1 = k by omega, ← hx] at this
          exact this
        obtain ⟨y, hy⟩ : ∃ y, y = l.getD (k - 1) 0 := ⟨_, rfl⟩
        rw [← hy] at h1 h2 h3 hlt
        have hfar := far_of s x (by omega) hxl
        rw [e] at i1 ⊢
        by_cases hin : x - s ≤ 16
        · rw [lsS_in out s b x (by omega) (by omega), hfar]
          have hb : b < 2 ^ (x - s - 1) := Nat.lt_of_lt_of_le h3 (Nat.pow_le_pow_right (by omega) (by omega))
          refine ⟨?_, fun _ => ⟨out, s, _, rfl, by omega, hin, ?_⟩⟩
          · rw [nkL_snoc]
            rw [nkL_snoc] at i1
            unfold nk1 at i1 ⊢
            simp only at i1 ⊢
            rw [nkT_or s b (x - s - 1) 16 hb, if_pos (by omega), ← i1, show (s + (x - s - 1) + 1) % 65536 = x by omega]
            simp
          · have e2 : x - s = (x - s - 1) + 1 := by omega
            have h4 : (2 : Nat) ^ (x - s - 1) < 2 ^ (x - s) := Nat.pow_lt_pow_right (by omega) (by omega)
            exact Nat.or_lt_two_pow (Nat.lt_trans hb h4) h4
        · rw [lsS_new out s b x (by omega)]
          refine ⟨?_, fun _ => ⟨out ++ [(s, b)], x, 0, rfl, Nat.le_refl _, by omega, by simp⟩⟩
          rw [nkL_snoc, i1]
          simp [nk1, nkT_zero]
  have h := (key l.length (Nat.le_refl _)).1
  rw [List.take_length] at h
  exact h

/-- A text is a name. -/
def nameP (s : ByteArray) : Prop := 1 ≤ s.size ∧ s.size ≤ 16 ∧ ∀ (i : Nat) (h : i < s.size), 33 ≤ (s[i]'h).toNat ∧ (s[i]'h).toNat ≤ 126
end Go.Proofs.YtacaempcbdekaaaDoor

namespace Go.Proofs.YtacaempcbdekaaaDoor
set_option linter.unusedVariables false

/-- A report. -/
structure Rep where
  so : Nat
  fr : Nat
  lo : Int
  hi : Nat
  ji : Nat
  la : Nat
  de : Nat
def Rep.fit (r : Rep) : Prop := r.so < 4294967296 ∧ r.fr < 256 ∧ (-2147483648 ≤ r.lo ∧ r.lo < 2147483648) ∧ r.hi < 4294967296 ∧ r.ji < 4294967296 ∧ r.la < 4294967296 ∧ r.de < 4294967296
/-- Its lost ones have three bytes. -/
def Rep.ok (r : Rep) : Prop := -8388608 ≤ r.lo ∧ r.lo ≤ 8388607
def lo24 (z : Int) : Nat := (if z < 0 then z + 16777216 else z).toNat
theorem lo24_lt (z : Int) (h1 : -8388608 ≤ z) (h2 : z ≤ 8388607) : lo24 z < 16777216 := by unfold lo24; split <;> omega
theorem lo24_is (z : Int) (h1 : -8388608 ≤ z) (h2 : z ≤ 8388607) : (lo24 z : Int) = if z < 0 then z + 16777216 else z := by unfold lo24; split <;> omega
def repB (r : Rep) : List UInt8 := beb 4 r.so ++ (beb 1 r.fr ++ (beb 3 (lo24 r.lo) ++ (beb 4 r.hi ++ (beb 4 r.ji ++ (beb 4 r.la ++ beb 4 r.de)))))
theorem repB_len (r : Rep) : (repB r).length = 24 := by simp [repB, length_beb]
/-- How many zeros are behind a name of n bytes. -/
def zb (n : Nat) : Nat := 4 - (6 + n) % 4
def namB (x : Nat × List UInt8) : List UInt8 := beb 4 x.1 ++ (beb 1 1 ++ (beb 1 x.2.length ++ (x.2 ++ List.replicate (zb x.2.length) 0)))
def lossB (x : Nat × Nat) : List UInt8 := beb 2 x.1 ++ beb 2 x.2
def firB (x : Nat × Nat) : List UInt8 := beb 4 x.1 ++ (beb 1 x.2 ++ List.replicate 3 0)
theorem namB_len (x : Nat × List UInt8) : (namB x).length = 6 + x.2.length + zb x.2.length := by simp [namB, length_beb]; omega
theorem lossB_len (x : Nat × Nat) : (lossB x).length = 4 := by simp [lossB, length_beb]
theorem firB_len (x : Nat × Nat) : (firB x).length = 8 := by simp [firB, length_beb]
theorem flat_len {α : Type} (f : α → List UInt8) (n : Nat) (hf : ∀ x, (f x).length = n) : ∀ L : List α, (L.flatMap f).length = n * L.length
  | [] => by simp
  | a :: r => by rw [List.flatMap_cons, List.length_append, hf, flat_len f n hf r, List.length_cons, Nat.mul_succ]; omega
theorem drop_at {α : Type} {L : List α} {k : Nat} (h : k < L.length) : L.drop k = L[k] :: L.drop (k + 1) := List.drop_eq_getElem_cons h
theorem flat_at {α : Type} (f : α → List UInt8) {L : List α} {k : Nat} (h : k < L.length) (tl : List UInt8) : (L.drop k).flatMap f ++ tl = f L[k] ++ ((L.drop (k + 1)).flatMap f ++ tl) := by
  rw [drop_at h, List.flatMap_cons, List.append_assoc]
theorem vals_at {α β : Type} (f : α → List β) {L : List α} {k : Nat} (h : k < L.length) : (L.take (k + 1)).flatMap f = (L.take k).flatMap f ++ f L[k] := by
  rw [List.take_add_one, List.getElem?_eq_getElem h, List.flatMap_append]
  simp only [Option.toList, List.flatMap_cons, List.flatMap_nil, List.append_nil]
end Go.Proofs.YtacaempcbdekaaaDoor

namespace Go.Proofs.YtacaempcbdekaaaDoor
open Go.RowKit
set_option linter.unusedVariables false

theorem u8_infoR : (Tryd.prog.info? 5).map (fun i => (i.zero, i.size, i.bytes)) = some (some (.int .u8 0), 1, 1) := by kernel_rfl

/-- Are n bytes there? -/
def thereB (nb : Nat) (a n : Int) : Bool := decide (1 ≤ n ∧ n ≤ 8 ∧ 0 ≤ a ∧ a ≤ (nb : Int) - n)

/-- What a function that makes bytes leaves: the bytes in a row of its own, and nothing below turned. -/
def Made (w : World) (bs : List UInt8) (e : Ending) (w' : World) : Prop :=
  ∃ v, e = .returned v ∧ w'.ownsRow w.heap.size 5 1 v bs.length (cells bs) ∧ Below w.heap.size w w'

theorem own_empty (w : World) : (w.alloc (.cells #[] 5)).ownsRow w.heap.size 5 1 (.slice (some ⟨w.heap.size, 0, none⟩) 0 0) 0 (cells []) :=
  World.ownsRow_lit w #[] 0 (Nat.le_refl _) (by simp) rfl

/-- Behind the append onto an empty row of the call's own. -/
theorem own_first {w w1 : World} {v1 : Value} {nb : Nat} {bs : List UInt8} (hl : bs.length = nb) (h : w1.ownsRow w.heap.size 5 1 v1 (0 + nb) (cells ([] ++ bs)))
    (hg : (w.alloc (.cells #[] 5)).grownBy w1 (Value.ownBlock (.slice (some ⟨w.heap.size, 0, none⟩) 0 0))) :
    w1.ownsRow w.heap.size 5 1 v1 nb (cells bs) ∧ Below w.heap.size w w1 :=
  ⟨by simpa using h, ((Below.refl _ _).alloc (Nat.le_refl _) _).grown hg (by simp) (fun k hk => by simp [Value.ownBlock] at hk; omega)⟩

theorem rput_none (A : Option Addr) (nb c : Nat) (bs : List UInt8) (n : Int) (x : Nat) (w : World) (hr : RdS w A nb c bs) (h : n < 1 ∨ 8 < n) (hs : nb ≤ 1073741823) :
    Calls Tryd.prog 49 #[.slice A nb c, .int .i64 n, .int .u64 x] w (Made w bs) := by
  have hd : n < 1 ∨ (1 ≤ n ∧ decide (8 < n) = true) := by
    rcases h with h | h
    · exact .inl h
    · exact .inr ⟨by omega, by simpa using h⟩
  have hl := hr.len
  rcases hd with h | ⟨h, h'⟩
  all_goals
    go_enter Tryd.func49, Tryd.ntmps49
    go_wp2_with (at_builtin; refine wpList_append_rd _ rfl (.tmp 10) (.tmp 11) rfl Tryd.underlying25 u8_infoR w.heap.size (.slice (some ⟨w.heap.size, 0, none⟩) 0 0) 0 [] rfl (own_empty w) A nb c bs rfl (hr.below ((Below.refl _ _).alloc (Nat.le_refl _) _)) (by omega) (by simp) ?_; intro v1 w1 hown1 hg1 hat1)
    obtain ⟨ho, hb⟩ := own_first hl hown1 hg1
    go_ret
    exact ⟨v1, rfl, by rw [hl]; exact ho, hb⟩

theorem rput_some (A : Option Addr) (nb c : Nat) (bs : List UInt8) (m x : Nat) (w : World) (hr : RdS w A nb c bs) (h1 : 1 ≤ m) (h2 : m ≤ 8) (hx : x < 18446744073709551616) (hs : nb ≤ 1073741823) :
    Calls Tryd.prog 49 #[.slice A nb c, .int .i64 m, .int .u64 x] w (Made w (bs ++ beb m x)) := by
  have hl := hr.len
  have hmk := run_makeB (P := Tryd.prog) Tryd.underlying25 u8_infoR .i64 .i64 (m : Int) (m : Int) m rfl rfl (by omega)
  go_enter Tryd.func49, Tryd.ntmps49
  go_wp2_with (at_builtin; refine wpList_append_rd _ rfl (.tmp 10) (.tmp 11) rfl Tryd.underlying25 u8_infoR w.heap.size (.slice (some ⟨w.heap.size, 0, none⟩) 0 0) 0 [] rfl (own_empty w) A nb c bs rfl (hr.below ((Below.refl _ _).alloc (Nat.le_refl _) _)) (by omega) (by simp) ?_; intro v1 w1 hown1 hg1 hat1)
  obtain ⟨ho, hb⟩ := own_first hl hown1 hg1
  have hltb := ho.lt
  clear hown1 hg1 hat1
  go_loopw [2, 9] (fun y i wr => ∃ k X : Nat, k ≤ m ∧ X ≤ x ∧ i = .int .i64 ((m : Int) - 1 - k) ∧ y = .int .u64 X ∧ Hid (X = x / 256 ^ k) ∧ wr.ownsRow w.heap.size 5 1 v1 nb (cells bs) ∧ Blk wr w1.heap.size 5 (fillB [] (beb m x) m k) ∧ Below w.heap.size w wr) (fun _ i _ => (intOf i + 1).toNat)
  case atStart => exact ⟨0, x, by omega, Nat.le_refl _, by go_num, rfl, Lib.hid (by simp), ho.alloc _, by rw [fillB_zero _ _ _ (length_beb _ _)]; exact Blk.new _ _ _, hb.alloc hb.size _⟩
  case round =>
    obtain ⟨k, X, hk, hXx, rfl, rfl, hX, hor, hBr, hbr⟩ := hrel
    by_cases hlt : k < m
    · have hcell := hBr.cell (j := m - 1 - k) (by rw [length_fillB _ _ _ _ (length_beb _ _)]; simp; omega)
      have hfr := hBr.frozen (m - 1 - k)
      have hst : Blk (wr.setCell ⟨w1.heap.size, m - 1 - k, none⟩ (.int .u8 ((X : Int) % 256))) w1.heap.size 5 (fillB [] (beb m x) m (k + 1)) := by
        rw [byte_mod, ← fillB_step [] (beb m x) m k (length_beb _ _) hlt (UInt8.ofNat X) (by rw [beb_at _ _ _ (by omega), hX.out]; congr 3; omega)]
        have h3 := hBr.set_ (m - 1 - k) (UInt8.ofNat X)
        simpa only [List.length_nil, Nat.zero_add] using h3
      have hbs := hbr.setCell (p := ⟨w1.heap.size, m - 1 - k, none⟩) hb.size (.int .u8 ((X : Int) % 256))
      have hos := hor.kept (row := some w1.heap.size) (w' := wr.setCell ⟨w1.heap.size, m - 1 - k, none⟩ (.int .u8 ((X : Int) % 256))) ⟨rfl, rfl, rfl, by simp [World.setCell], fun i _ hi => Below.heap_setCell _ _ _ _ (fun e => hi (by rw [e]))⟩ (by
        rcases hv : v1.ownBlock with _ | q
        · exact .inl rfl
        · refine .inr fun e => ?_
          have := (hltb q hv).2
          injection e with e
          omega)
      have hX2 : Hid (X / 256 = x / 256 ^ (k + 1)) := Lib.hid (by rw [hX.out, div_pow_step])
      have hXl : X / 256 ≤ x := by omega
      obtain ⟨u, hu⟩ : ∃ u : Value, u = (.int .u8 (((fillB [] (beb m x) m k).getD (m - 1 - k) 0).toNat : Int)) := ⟨_, rfl⟩
      rw [← hu] at hcell
      clear hu hltb
      go_wp2
      go_roundw
      case rel => exact ⟨k + 1, X / 256, by omega, hXl, by go_num, by go_num, hX2, hos, hst, hbs⟩
      case measure => simp [intOf]; omega
    · obtain rfl : k = m := by omega
      rw [fillB_all, List.nil_append] at hBr
      clear hltb
      go_wp2_with (at_builtin; refine wpList_append_rd _ rfl (.tmp 36) (.tmp 37) rfl Tryd.underlying25 u8_infoR w.heap.size v1 nb bs rfl hor (some ⟨w1.heap.size, 0, none⟩) k k (beb k x) rfl (hBr.rd (length_beb _ _) (Nat.le_refl _) (by simp [maxLen]; omega)) (by omega) hbr.size ?_; intro v2 w2 hown2 hg2 hat2)
      go_ret
      exact ⟨v2, rfl, by rw [List.length_append, length_beb, hl]; exact hown2, hbr.grown hg2 hbr.size (fun q hq => (hor.lt q hq).1)⟩

theorem rd_zero (w : World) : RdS (w.alloc (.cells #[.int .u8 0] 5)) (some ⟨w.heap.size, 0, none⟩) 1 1 [0] :=
  (show Blk (w.alloc (.cells #[.int .u8 0] 5)) w.heap.size 5 [0] from Blk.new w _ [0]).rd rfl (Nat.le_refl _) (by simp [maxLen])

/-- The length in a slot. -/
def lenOf : Value → Nat
  | .slice _ n _ => n
  | _ => 0

end Go.Proofs.YtacaempcbdekaaaDoor

namespace Go.Proofs.YtacaempcbdekaaaDoor
open Go.RowKit

section
variable {P : Program} (w : World)
/-- One value more behind a row of the call's own: what the row held can still be read where it lay. -/
theorem run_app1 (base : Nat) {t e : TypeId} (ty : TypeId) {z : Value} {by8 : Nat} (ht : P.underlying t = some (.slice e)) (hi : (P.info? e).map (fun i => (i.zero, i.size, i.bytes)) = some (some z, 1, by8)) (hz1 : z.cells.size = 1) (h8 : by8 ≤ 64)
    (v : Value) (n : Nat) (xs : List Value) (hown : w.ownsRow base e 1 v n xs) (ad : Addr) (c : Nat) (x : Value) (hx : w.cell? (ad.add 0) = some x) (h1 : x.oneCell' = true) (hn : n ≤ 1000000) (hbase : base ≤ w.heap.size) :
    ∃ v' w', (Builtin.append_ #[t, t] ty #[v, .slice (some ad) 1 c]).run P w = .ok v' w' ∧ w'.ownsRow base e 1 v' (n + 1) (xs ++ [x]) ∧ w.grownBy w' v.ownBlock ∧
      (v'.ownBlock = v.ownBlock ∨ v'.ownBlock = some w.heap.size) ∧ (∀ g, v.ownBlock = some g → ∀ j, j < n → w'.cell? ⟨g, j, none⟩ = w.cell? ⟨g, j, none⟩) := by
  obtain ⟨i, hi, hz, hs, hby⟩ := info_parts hi
  have hnews : ∀ j u, [x][j]? = some u → w.cell? (ad.add j) = some u := by
    intro j u hj
    match j, hj with
    | 0, hj => simp at hj; subst hj; exact hx
  have hone : ∀ u ∈ [x], u.oneCell' = true := by
    intro u hu
    simp only [List.mem_singleton] at hu
    subst hu
    exact h1
  have hm : n + 1 ≤ maxLen := by simp only [maxLen]; omega
  have hb : (n + 1) * by8 ≤ 140737488355328 := by
    have : (n + 1) * by8 ≤ 1000001 * 64 := Nat.mul_le_mul (by omega) h8
    omega
  obtain ⟨v', w', hrun, h2, h3, _, h5⟩ := run_append_own_at (P := P) w base t ty e i z 1 by8 ht hi hz hs hby hz1 (by omega) v n xs hown ad 1 c [x] rfl hnews hone hm hb hbase
  refine ⟨v', w', hrun, h2, h3, h5, ?_⟩
  intro g hg j hj
  have hold := hown.cells hg
  have hxl : xs.length = n := by simpa using hown.1
  obtain ⟨g', cap, hv, _, hlt⟩ := hown.form (by omega)
  subst hv
  have hgg : g' = g := by simpa [Value.ownBlock] using hg
  subst hgg
  have hj1 : w.cell? ⟨g', j, none⟩ = xs[j]? := hown.cellAt j (by omega)
  rcases h5 with h5 | h5
  · obtain ⟨g2, cap2, hv2, _, _⟩ := h2.form (by omega)
    subst hv2
    have hg2 : g2 = g' := by simpa [Value.ownBlock] using h5
    subst hg2
    rw [hj1, h2.cellAt j (by omega), List.getElem?_append_left (by omega)]
  · by_cases hroom : n + 1 ≤ cap
    · obtain ⟨cur, hgc, hcs⟩ : ∃ cur, w.heap[g']? = some (.cells cur e (0, 0)) ∧ cur.size = cap * 1 := by
        rcases hown.2 with ⟨h', _⟩ | ⟨g2, cap2, cur, h', _, hgc, _, _, hcs, _⟩
        · simp at h'
        · simp only [Value.slice.injEq, Option.some.injEq, Addr.mk.injEq, and_true, true_and] at h'
          obtain ⟨rfl, rfl⟩ := h'
          exact ⟨cur, hgc, hcs⟩
      have hr2 := run_append_room (P := P) w t ty e i ht hi g' n cap cur hgc ad 1 c [x] (by simp [hs]) hnews hone hroom (by simp [hs, hcs]; omega)
      rw [hrun] at hr2
      injection hr2 with e1 e2
      subst e1
      simp [Value.ownBlock] at h5
      omega
    · obtain ⟨v2, w2, hr2, _, hg2⟩ := run_append_arg_grows (P := P) w t ty e i z 1 by8 ht hi hz hs hby hz1 (by omega) ⟨g', 0, none⟩ n cap xs (by omega) hold ad 1 c [x] rfl hnews (by omega) hm hb
      rw [hrun] at hr2
      injection hr2 with e1 e2
      subst e2
      exact World.cell?_of_block (w := w) (a := ⟨g', j, none⟩) (hg2.block g' hlt (by simp))
theorem wp_app1 {o : Oper} {a : Act} {K : Act → World → Prop} {Q : Exit → Act → World → Prop} (s y : Operand) {t e : TypeId} {z : Value} {by8 : Nat}
    (ho : o.op = .call { callee := .builtin .append, args := #[s, y], argTypes := #[t, t] }) (ht : P.underlying t = some (.slice e)) (hi : (P.info? e).map (fun i => (i.zero, i.size, i.bytes)) = some (some z, 1, by8)) (hz1 : z.cells.size = 1) (h8 : by8 ≤ 64)
    (base : Nat) (v : Value) (n : Nat) (xs : List Value) (hs : a.eval s = v) (hown : w.ownsRow base e 1 v n xs) (ad : Addr) (c : Nat) (hy : a.eval y = .slice (some ad) 1 c) (x : Value) (hx : w.cell? (ad.add 0) = some x) (h1 : x.oneCell' = true) (hn : n ≤ 1000000) (hbase : base ≤ w.heap.size)
    (hK : ∀ v' w', w'.ownsRow base e 1 v' (n + 1) (xs ++ [x]) → w.grownBy w' v.ownBlock → (v'.ownBlock = v.ownBlock ∨ v'.ownBlock = some w.heap.size) → (∀ g, v.ownBlock = some g → ∀ j, j < n → w'.cell? ⟨g, j, none⟩ = w.cell? ⟨g, j, none⟩) → K (a.put o.dst v') w') : o.wp P a w K Q := by
  obtain ⟨v', w', hrun, h2, h3, h4, h5⟩ := run_app1 (P := P) w base o.type ht hi hz1 h8 v n xs hown ad c x hx h1 hn hbase
  unfold Oper.wp execOp
  simp only [ho, resolve, invoke, builtin, Sem.run_bind, Sem.run_pure, Result.andThen_ok, List.map_toArray, List.map_cons, List.map_nil, hs, hy, hrun]
  exact hK v' w' h2 h3 h4 h5
theorem wpList_app1 {ops : Array Oper} {rest : List Oper} {o : Oper} {a : Act} {Q : Exit → Act → World → Prop} (hgd : o.guard = none) (s y : Operand) {t e : TypeId} {z : Value} {by8 : Nat}
    (ho : o.op = .call { callee := .builtin .append, args := #[s, y], argTypes := #[t, t] }) (ht : P.underlying t = some (.slice e)) (hi : (P.info? e).map (fun i => (i.zero, i.size, i.bytes)) = some (some z, 1, by8)) (hz1 : z.cells.size = 1) (h8 : by8 ≤ 64)
    (base : Nat) (v : Value) (n : Nat) (xs : List Value) (hs : a.eval s = v) (hown : w.ownsRow base e 1 v n xs) (ad : Addr) (c : Nat) (hy : a.eval y = .slice (some ad) 1 c) (x : Value) (hx : w.cell? (ad.add 0) = some x) (h1 : x.oneCell' = true) (hn : n ≤ 1000000) (hbase : base ≤ w.heap.size)
    (hK : ∀ v' w', w'.ownsRow base e 1 v' (n + 1) (xs ++ [x]) → w.grownBy w' v.ownBlock → (v'.ownBlock = v.ownBlock ∨ v'.ownBlock = some w.heap.size) → (∀ g, v.ownBlock = some g → ∀ j, j < n → w'.cell? ⟨g, j, none⟩ = w.cell? ⟨g, j, none⟩) → wpList P ops Q rest (a.put o.dst v') w') : wpList P ops Q (o :: rest) a w :=
  wpList_plain hgd fun _ hK2 => wp_app1 w s y ho ht hi hz1 h8 base v n xs hs hown ad c hy x hx h1 hn hbase fun v' w' h2 h3 h4 h5 => hK2 _ _ (hK v' w' h2 h3 h4 h5)
theorem step_app1 {ops : Array Oper} {o : Oper} {a : Act} {K : Act → World → Prop} {Q : Exit → Act → World → Prop} {E : Prop} (hgd : o.guard = none) (s y : Operand) {t e : TypeId} {z : Value} {by8 : Nat}
    (ho : o.op = .call { callee := .builtin .append, args := #[s, y], argTypes := #[t, t] }) (ht : P.underlying t = some (.slice e)) (hi : (P.info? e).map (fun i => (i.zero, i.size, i.bytes)) = some (some z, 1, by8)) (hz1 : z.cells.size = 1) (h8 : by8 ≤ 64)
    (base : Nat) (v : Value) (n : Nat) (xs : List Value) (hs : a.eval s = v) (hown : w.ownsRow base e 1 v n xs) (ad : Addr) (c : Nat) (hy : a.eval y = .slice (some ad) 1 c) (x : Value) (hx : w.cell? (ad.add 0) = some x) (h1 : x.oneCell' = true) (hn : n ≤ 1000000) (hbase : base ≤ w.heap.size)
    (hK : ∀ v' w', w'.ownsRow base e 1 v' (n + 1) (xs ++ [x]) → w.grownBy w' v.ownBlock → (v'.ownBlock = v.ownBlock ∨ v'.ownBlock = some w.heap.size) → (∀ g, v.ownBlock = some g → ∀ j, j < n → w'.cell? ⟨g, j, none⟩ = w.cell? ⟨g, j, none⟩) → K (a.put o.dst v') w') :
    if Region.wanted o (yielded ops a.tmps) = true then Oper.wp P o a w K Q else E := by
  rw [if_pos (by simp [Region.wanted, hgd])]
  exact wp_app1 w s y ho ht hi hz1 h8 base v n xs hs hown ad c hy x hx h1 hn hbase hK
end
end Go.Proofs.YtacaempcbdekaaaDoor

namespace Go.Proofs.YtacaempcbdekaaaDoor
set_option linter.unusedVariables false

/-- A control packet. -/
structure Ctl where
  k : Int
  so : Nat
  me : Nat
  ti : Nat
  st : Nat
  pa : Nat
  oc : Nat
  reps : List Rep
  nams : List (Nat × List UInt8)
  srcs : List Nat
  loss : List (Nat × Nat)
  firs : List (Nat × Nat)
  ra : Nat
def mkSR (k : Int) (so ti st pa oc : Nat) (L : List Rep) : Ctl := ⟨k, so, 0, ti, st, pa, oc, L, [], [], [], [], 0⟩
def mkRR (k : Int) (so : Nat) (L : List Rep) : Ctl := ⟨k, so, 0, 0, 0, 0, 0, L, [], [], [], [], 0⟩
def mkSD (k : Int) (L : List (Nat × List UInt8)) : Ctl := ⟨k, 0, 0, 0, 0, 0, 0, [], L, [], [], [], 0⟩
def mkBY (k : Int) (L : List Nat) : Ctl := ⟨k, 0, 0, 0, 0, 0, 0, [], [], L, [], [], 0⟩
def mkNA (k : Int) (so me : Nat) (L : List (Nat × Nat)) : Ctl := ⟨k, so, me, 0, 0, 0, 0, [], [], [], L, [], 0⟩
def mkPL (k : Int) (so me : Nat) : Ctl := ⟨k, so, me, 0, 0, 0, 0, [], [], [], [], [], 0⟩
def mkFI (k : Int) (so : Nat) (L : List (Nat × Nat)) : Ctl := ⟨k, so, 0, 0, 0, 0, 0, [], [], [], [], L, 0⟩
def mkRE (k : Int) (so : Nat) (L : List Nat) (ra : Nat) : Ctl := ⟨k, so, 0, 0, 0, 0, 0, [], [], L, [], [], ra⟩

def bSR (so ti st pa oc : Nat) (L : List Rep) : List UInt8 := beb 4 so ++ (beb 8 ti ++ (beb 4 st ++ (beb 4 pa ++ (beb 4 oc ++ L.flatMap repB))))
def bRR (so : Nat) (L : List Rep) : List UInt8 := beb 4 so ++ L.flatMap repB
def bSD (L : List (Nat × List UInt8)) : List UInt8 := L.flatMap namB
def bBY (L : List Nat) : List UInt8 := L.flatMap (beb 4)
def bNA (so me : Nat) (L : List (Nat × Nat)) : List UInt8 := beb 4 so ++ (beb 4 me ++ L.flatMap lossB)
def bPL (so me : Nat) : List UInt8 := beb 4 so ++ beb 4 me
def bFI (so : Nat) (L : List (Nat × Nat)) : List UInt8 := beb 4 so ++ (beb 4 0 ++ L.flatMap firB)
/-- The letters ahead of a rate. -/
def letB : List UInt8 := [82, 69, 77, 66]
def bRE (so : Nat) (L : List Nat) (m e : Nat) : List UInt8 := beb 4 so ++ (beb 4 0 ++ (letB ++ (beb 1 L.length ++ (beb 3 (e * 262144 + m) ++ L.flatMap (beb 4)))))
theorem beb_zero (n : Nat) : beb n 0 = List.replicate n 0 := by
  unfold beb
  apply List.ext_getElem <;> simp
end Go.Proofs.YtacaempcbdekaaaDoor

namespace Go.Proofs.YtacaempcbdekaaaDoor
open Go.RowKit
set_option linter.unusedVariables false

theorem run_ld {P : Program} {op : Oper} {a : Act} {w : World} (ty : TypeId) (x : Operand) (ho : op.op = .load ty x) (b o : Nat) (hx : a.eval x = .pointer (some ⟨b, o, none⟩)) (cs : List Value) (hc : w.rangeAt b o cs) (hT : RowTy P ty cs.length) :
    (execOp a.eval op).run P w = .ok (.value (.agg cs.toArray)) w := by
  obtain ⟨d, h1, h2, h3⟩ := hT
  unfold execOp
  simp only [ho, hx, Instr.loadAt, Instr.sureAddr, Sem.run_bind, Sem.run_pure, Result.andThen_ok, run_loadVar_mid w b o ty cs d hc h1 h2 h3]
section
variable {P : Program} {md : Region.Mode} {ops : Array Oper} {Q : Exit → Act → World → Prop} {S : World → Prop}
/-- One operation alone may come up, guarded by what is true, under what is held. -/
theorem anyH_oneG {i : Nat} {op : Oper} {fuel : Nat} {listed : Array Bool} {a : Act} {w : World} (hr : Region.ready md ops listed = [i]) (ho : ops[i]? = some op) (hw : Region.wanted op (yielded ops a.tmps) = true)
    (h : ∀ K : Act → World → Prop, (∀ a w, S w → wpAnyH P md ops Q S fuel (listed.setIfInBounds i true) a w → K a w) → op.wp P a w K Q) : wpAnyH P md ops Q S (fuel + 1) listed a w := by
  refine wpAnyH_all hr (by simp) fun j hj => ?_
  simp only [List.mem_singleton] at hj
  subst hj
  unfold wpOp
  simp only [ho]
  rw [if_pos hw]
  exact Or.inl (h _ fun a w h1 h2 => ⟨h1, h2⟩)
end
end Go.Proofs.YtacaempcbdekaaaDoor

namespace Go.Proofs.YtacaempcbdekaaaDoor
open Go.RowKit Go.ChangeShapes Go.WideShapes Go.Deep
set_option linter.unusedVariables false

/-- What a field of one cell is. -/
inductive FK where
  | int (k : IntKind)
  | bool
/-- Is a type of that kind? -/
def FK.is : FK → Option TypeDesc → Bool
  | .int k, some (.int k') => decide (k = k')
  | .bool, some .bool => true
  | _, _ => false
/-- A value of that kind. -/
def FK.ok : FK → Value → Prop
  | .int k, v => ∃ z, v = .int k z ∧ (Lit.int k z).wf = true
  | .bool, v => ∃ b, v = .bool b
/-- A struct's fields are of these kinds, one by one. -/
def kindsOk (P : Program) (fs : Array Field) (ks : List FK) : Bool := (ks.length == fs.size && decide (0 < ks.length)) && (List.range fs.size).all fun i => match fs[i]?, ks[i]? with
  | some f, some k => k.is (P.underlying f.type)
  | _, _ => false
theorem kindsOk_at {P : Program} {fs : Array Field} {ks : List FK} (h : kindsOk P fs ks = true) : ks.length = fs.size ∧ 0 < ks.length ∧ ∀ (i : Nat) (f : Field) (k : FK), fs[i]? = some f → ks[i]? = some k → k.is (P.underlying f.type) = true := by
  unfold kindsOk at h
  simp only [Bool.and_eq_true, beq_iff_eq, decide_eq_true_eq] at h
  refine ⟨h.1.1, h.1.2, fun i f k hf hk => ?_⟩
  have hi : i < fs.size := (Array.getElem?_eq_some_iff.1 hf).1
  have := List.all_eq_true.1 h.2 i (List.mem_range.2 hi)
  simpa only [hf, hk] using this
/-- The slice reads as these rows, one a struct. -/
def RdF (ks : List FK) (w : World) (A : Option Addr) (n : Nat) (rs : Nat → Nat → Value) : Prop :=
  n ≤ 9223372036854775807 ∧ (∀ i, i < n → ∀ (j : Nat) (k : FK), ks[j]? = some k → k.ok (rs i j)) ∧
  (0 < n → ∃ b off, A = some ⟨b, off, none⟩ ∧ b < w.heap.size ∧ ∀ i, i < n → ∀ j, j < ks.length → w.cell? ⟨b, off + (i * ks.length + j), none⟩ = some (rs i j))
section
variable {ks : List FK} {w w' : World} {A : Option Addr} {n : Nat} {rs : Nat → Nat → Value}
theorem RdF.small (h : RdF ks w A n rs) : n ≤ 9223372036854775807 := h.1
theorem RdF.below (h : RdF ks w A n rs) {B : Nat} (hb : Below B w w') (hB : w.heap.size ≤ B) : RdF ks w' A n rs := by
  refine ⟨h.1, h.2.1, fun hn => ?_⟩
  obtain ⟨b, off, hA, hlt, hc⟩ := h.2.2 hn
  exact ⟨b, off, hA, Nat.lt_of_lt_of_le hlt hb.size, fun i hi j hj => (hb.cell (p := ⟨b, off + (i * ks.length + j), none⟩) (by simp only; omega)).trans (hc i hi j hj)⟩
/-- Where it lies, in every world in which what was there stays. -/
theorem RdF.at_ (h : RdF ks w A n rs) (hn : 0 < n) : ∃ b off, A = some ⟨b, off, none⟩ ∧ ∀ wx, Below w.heap.size w wx → ∀ i, i < n → ∀ j, j < ks.length → wx.cell? ⟨b, off + (i * ks.length + j), none⟩ = some (rs i j) := by
  obtain ⟨b, off, hA, _, _⟩ := h.2.2 hn
  refine ⟨b, off, hA, fun wx hb i hi j hj => ?_⟩
  obtain ⟨b2, off2, hA2, _, hc2⟩ := (h.below hb (Nat.le_refl _)).2.2 hn
  rw [hA] at hA2
  injection hA2 with e
  injection e with e1 e2
  subst e1; subst e2
  exact hc2 i hi j hj
end
theorem add_at (b o k : Nat) : (⟨b, o, none⟩ : Addr).add k = ⟨b, o + k, none⟩ := by unfold Addr.add; split <;> simp_all
/-- Where a slice of structs came in. -/
theorem open_fields {H : Type} {enc : TypeId × Value → H} {P : Program} {w : World} {t e : TypeId} {fs : Array Field} (ks : List FK) (ht : P.underlying t = some (.slice e)) (he : P.underlying e = some (.struct fs)) (hone : oneCellFields P fs = true) (hC : P.cellsOf e = fs.size) (hks : kindsOk P fs ks = true)
    {a : Option Addr} {len cap : Nat} {d : DataW H} {ps : List MemPlace} (hd : DataW.Trod enc P w 0 (fun _ => true) true t (.slice a len cap) d ps) : ∃ rs, RdF ks w a len rs := by
  obtain ⟨hl0, hpos, hk⟩ := kindsOk_at hks
  obtain ⟨fuel, hf⟩ := hd
  rcases open_slice ht hf with ⟨h0, _⟩ | ⟨x, l, c, m, f2, D, Pl, hcs, _, hle, hcap, hm, _, hel⟩
  · simp [Value.cells] at h0
    obtain ⟨rfl, rfl, rfl⟩ := h0
    exact ⟨fun _ _ => .bool false, by omega, fun i hi => absurd hi (by omega), fun hn => absurd hn (by omega)⟩
  · simp [Value.cells] at hcs
    obtain ⟨rfl, rfl, rfl⟩ := hcs
    simp only [maxLen] at hcap
    simp only [if_true] at hm
    have hlm : len ≤ m := by omega
    have key : ∀ i, i < len → ∀ (j : Nat) (k : FK), ks[j]? = some k → ∃ v, w.cell? (x.add (i * ks.length + j)) = some v ∧ k.ok v := by
      intro i hi j k hkj
      obtain ⟨cs, hc, ht2⟩ := hel i (by omega)
      obtain ⟨_, hcl, hcell⟩ := World.cells?_some hc
      obtain ⟨xs, f3, _, _, _, hxl, hfl⟩ := DataW.trod_struct he ht2
      have hj : j < ks.length := (List.getElem?_eq_some_iff.1 hkj).1
      have hjf : fs[j]? = some (fs[j]'(by omega)) := Array.getElem?_eq_getElem (by omega)
      obtain ⟨ho, h1⟩ := hone_of hone j _ hjf
      have hr := hfl j _ hjf
      rw [ho, h1] at hr
      have hjc : j < cs.length := by omega
      rw [List.drop_eq_getElem_cons hjc] at hr
      simp only [List.take_succ_cons, List.take_zero] at hr
      have hxj : xs[j]? = some (xs[j]'(by omega)) := List.getElem?_eq_getElem (by omega)
      rw [hxj] at hr
      have hcj := hcell j (by omega)
      rw [List.getElem?_eq_getElem hjc, hC, ← hl0, Go.Deep.add_add] at hcj
      refine ⟨cs[j], hcj, ?_⟩
      have hki := hk j _ k hjf hkj
      cases k with
      | int q =>
        cases hu : P.underlying (fs[j]'(by omega)).type with
        | none => rw [hu] at hki; simp [FK.is] at hki
        | some u =>
          rw [hu] at hki
          cases u <;> simp [FK.is] at hki
          subst hki
          obtain ⟨z, hz, _, hw⟩ := DataW.trod_int hu hr
          simp only [List.cons.injEq, and_true] at hz
          exact ⟨z, hz, hw⟩
      | bool =>
        cases hu : P.underlying (fs[j]'(by omega)).type with
        | none => rw [hu] at hki; simp [FK.is] at hki
        | some u =>
          rw [hu] at hki
          cases u <;> simp [FK.is] at hki
          obtain ⟨z, hz, _⟩ := DataW.trod_bool hu hr
          simp only [List.cons.injEq, and_true] at hz
          exact ⟨z, hz⟩
    refine ⟨fun i j => (w.cell? (x.add (i * ks.length + j))).getD (.bool false), by omega, fun i hi j k hkj => ?_, fun hn => ?_⟩
    · obtain ⟨v, hv, hok⟩ := key i hi j k hkj
      simp only [hv, Option.getD_some]; exact hok
    · obtain ⟨v0, hv0, _⟩ := key 0 hn 0 (ks[0]'hpos) (List.getElem?_eq_getElem hpos)
      obtain ⟨b, off, spot⟩ := x
      have hs : spot = none := by
        have := World.cell?_spot hv0
        simpa [Addr.add] using this
      subst hs
      refine ⟨b, off, rfl, ?_, fun i hi j hj => ?_⟩
      · have := World.block_lt_of_cell? w _ hv0
        rw [add_at] at this
        exact this
      · obtain ⟨v, hv, _⟩ := key i hi j (ks[j]'hj) (List.getElem?_eq_getElem hj)
        rw [add_at] at hv
        simp only [add_at, hv, Option.getD_some]
end Go.Proofs.YtacaempcbdekaaaDoor
