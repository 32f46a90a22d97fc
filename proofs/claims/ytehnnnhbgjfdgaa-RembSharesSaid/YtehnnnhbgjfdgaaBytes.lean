/- Plain words on slices of bytes, for any program: a slice that reads as a list of bytes, kept over new memory; what it is as a string; what the call's own row of bytes is. No statement is proved here. -/
import Derived.WalkKit
import Derived.Below
import Derived.Laws.BytesArg
import Derived.Laws.CopyOwn
import Derived.Laws.AppendOwnNone
import Derived.WalkSmall
import Derived.IntWalk
import Derived.OpenShut
import Derived.Maps.AppendAt
import Derived.Deep.AppendLies
import Derived.RegionTactic
namespace Go.Proofs.Ytehnnnhbgjfdgaa
open Go.RowKit

/-- The cells of a row of bytes. -/
def cells (bs : List UInt8) : List Value := bs.map fun b => .int .u8 (b.toNat : Int)
/-- The text of a row of bytes. -/
def txt (bs : List UInt8) : ByteArray := ⟨bs.toArray⟩

theorem length_cells (bs : List UInt8) : (cells bs).length = bs.length := by simp [cells]
theorem cells_append (a b : List UInt8) : cells (a ++ b) = cells a ++ cells b := by simp [cells]
theorem cells_one (bs : List UInt8) : ∀ u ∈ cells bs, u.oneCell' = true := by
  intro u hu
  obtain ⟨_, _, rfl⟩ := List.mem_map.1 hu
  rfl
theorem cells_at {bs : List UInt8} {j : Nat} (h : j < bs.length) : (cells bs)[j]? = some (.int .u8 ((bs.getD j 0).toNat : Int)) := by
  simp [cells, List.getD, h]
theorem cells_replicate (n : Nat) (b : UInt8) : cells (List.replicate n b) = List.replicate n (.int .u8 (b.toNat : Int)) := by simp [cells]
theorem cells_set (bs : List UInt8) (j : Nat) (b : UInt8) : (cells bs).set j (.int .u8 (b.toNat : Int)) = cells (bs.set j b) := by simp [cells, List.map_set]
theorem txt_inj {a b : List UInt8} : txt a = txt b ↔ a = b := by
  constructor
  · intro h
    have := congrArg (fun s : ByteArray => s.data.toList) h
    simpa [txt] using this
  · rintro rfl; rfl
theorem txt_toList (a : List UInt8) : (txt a).toList = a := by
  rw [ByteArray.toList_eq]; simp [txt]

/-- The slice '.slice A n c' reads as the bytes bs. -/
def RdS (w : World) (A : Option Addr) (n c : Nat) (bs : List UInt8) : Prop :=
  bs.length = n ∧ n ≤ c ∧ c ≤ maxLen ∧ (A = none → c = 0) ∧
  (0 < n → ∃ b off, A = some ⟨b, off, none⟩ ∧ b < w.heap.size ∧ ∀ j, j < n → w.cell? ⟨b, off + j, none⟩ = some (.int .u8 ((bs.getD j 0).toNat : Int)))

theorem RdS.len {w : World} {A : Option Addr} {n c : Nat} {bs : List UInt8} (h : RdS w A n c bs) : bs.length = n := h.1
theorem RdS.le {w : World} {A : Option Addr} {n c : Nat} {bs : List UInt8} (h : RdS w A n c bs) : n ≤ c := h.2.1
theorem RdS.max {w : World} {A : Option Addr} {n c : Nat} {bs : List UInt8} (h : RdS w A n c bs) : c ≤ maxLen := h.2.2.1
theorem RdS.small {w : World} {A : Option Addr} {n c : Nat} {bs : List UInt8} (h : RdS w A n c bs) : n ≤ 9223372036854775807 ∧ c ≤ 9223372036854775807 := by
  have h1 := h.le
  have h2 := h.max
  simp only [maxLen] at h2
  omega

theorem RdS.below {w w' : World} {A : Option Addr} {n c : Nat} {bs : List UInt8} (h : RdS w A n c bs) (hb : Below w.heap.size w w') : RdS w' A n c bs := by
  refine ⟨h.1, h.2.1, h.2.2.1, h.2.2.2.1, fun hn => ?_⟩
  obtain ⟨b, off, hA, hlt, hc⟩ := h.2.2.2.2 hn
  exact ⟨b, off, hA, Nat.lt_of_lt_of_le hlt hb.size, fun j hj => (hb.cell (p := ⟨b, off + j, none⟩) hlt).trans (hc j hj)⟩

theorem RdS.belowB {w w' : World} {A : Option Addr} {n c : Nat} {bs : List UInt8} (h : RdS w A n c bs) {B : Nat} (hb : Below B w w') (hB : w.heap.size ≤ B) : RdS w' A n c bs := h.below (hb.mono hB)

theorem RdS.drew {w : World} {A : Option Addr} {n c : Nat} {bs : List UInt8} (h : RdS w A n c bs) : RdS w.drew A n c bs := h

theorem RdS.nil (w : World) : RdS w none 0 0 [] := ⟨rfl, Nat.le_refl _, by simp, fun _ => rfl, fun h => absurd h (by omega)⟩

theorem RdS.of_own {w : World} {base : Nat} {e : TypeId} {A : Option Addr} {n c : Nat} {bs : List UInt8} (h : w.ownsRow base e 1 (.slice A n c) n (cells bs)) : RdS w A n c bs := by
  have hl : bs.length = n := by simpa [length_cells] using h.1
  have hat := h
  rcases h.2 with ⟨hv, hn⟩ | ⟨g, cap, cur, hv, hb, hg, hnc, hcm, hcs, htake⟩
  · injection hv with h1 h2 h3
    subst h1; subst h3
    exact ⟨hl, by omega, by simp, fun _ => rfl, fun h => absurd h (by omega)⟩
  · injection hv with h1 h2 h3
    subst h1; subst h3
    refine ⟨hl, hnc, hcm, fun h => by simp at h, fun hn => ⟨g, 0, rfl, (Array.getElem?_eq_some_iff.1 hg).1, fun j hj => ?_⟩⟩
    rw [Nat.zero_add, hat.cellAt j (by omega), cells_at (by omega)]

/-- Where a slice came in as a row of numbers that fit a byte. -/
theorem RdS.of_row {w : World} {a : Option Addr} {len cap : Nat} {zs : List Int}
    (h : (a = none ∧ len = 0 ∧ cap = 0 ∧ zs = []) ∨
      ∃ x, a = some x ∧ len ≤ cap ∧ cap ≤ maxLen ∧ zs.length = cap ∧ (∀ i, i < zs.length → w.cell? (x.add i) = some (.int .u8 (zs.getD i 0))) ∧ ∀ n ∈ zs, (Lit.int .u8 n).wf = true) :
    ∃ bs, RdS w a len cap bs := by
  rcases h with ⟨rfl, rfl, rfl, rfl⟩ | ⟨x, rfl, hl, hm, hz, hc, hw⟩
  · exact ⟨[], RdS.nil w⟩
  · refine ⟨(zs.take len).map fun z => UInt8.ofNat z.toNat, by simp; omega, hl, hm, fun h => by simp at h, fun hn => ?_⟩
    obtain ⟨b, off, spot⟩ := x
    have h0 := hc 0 (by omega)
    have hs : spot = none := by simpa [Addr.add] using World.cell?_spot h0
    subst hs
    have hadd : ∀ j, (⟨b, off, none⟩ : Addr).add j = ⟨b, off + j, none⟩ := fun j => by unfold Addr.add; split <;> simp_all
    refine ⟨b, off, rfl, ?_, fun j hj => ?_⟩
    · have := World.block_lt_of_cell? w _ h0
      rw [hadd] at this
      exact this
    · have hcj := hc j (by omega)
      rw [hadd] at hcj
      have hjz : j < zs.length := by omega
      have hwj := bounds_u8 (hw (zs[j]) (List.getElem_mem hjz))
      rw [hcj]
      simp only [List.getD, hjz, hj, List.getElem?_map, List.getElem?_take, if_true, List.getElem?_eq_getElem, Option.map_some, Option.getD_some]
      congr 2
      rw [UInt8.toNat_ofNat']
      omega

/-- A slice of bytes made a string. -/
theorem run_conv {P : Program} {w : World} {A : Option Addr} {n c : Nat} {bs : List UInt8} (h : RdS w A n c bs) (src dst e : TypeId) (hs : P.underlying src = some (.slice e)) (he : P.underlying e = some (.int .u8))
    (hd : P.underlying dst = some .string) : (convert src dst (.slice A n c)).run P w = .ok (.string (txt bs)) w := by
  rcases Nat.eq_zero_or_pos n with h0 | h0
  · subst h0
    have hb : bs = [] := List.eq_nil_of_length_eq_zero h.1
    subst hb
    rcases A with _ | a
    · rw [run_convert_bytes_nil w src e hs he 0 c dst hd]; rfl
    · rw [run_convert_bytes_string w src dst e _ 0 c hs he hd]
      have := run_bytesToString (P := P) w a 0 c [] (run_loadCells_list (P := P) w a [] (fun j v hj => by simp at hj))
      rw [this]; rfl
  · obtain ⟨b, off, rfl, _, hc⟩ := h.2.2.2.2 h0
    have hm : ∀ j, j < n → ((bs.map fun b => (b.toNat : Int)).getD j 0) = ((bs.getD j 0).toNat : Int) := fun j hj => by
      have : j < bs.length := by rw [h.1]; exact hj
      simp [List.getD, this]
    rw [run_convert_bytes_arg w src e hs he b off n c (bs.map fun b => (b.toNat : Int)) (by simpa using h.1) (fun j hj => by rw [hm j hj]; exact hc j hj) dst hd]
    have : strOfNums (bs.map fun b => (b.toNat : Int)) = txt bs := by
      simp [strOfNums, txt, Function.comp_def]
    rw [this]

/-- Block g is just these bytes. -/
def Blk (w : World) (g : Nat) (e : TypeId) (bs : List UInt8) : Prop := w.heap[g]? = some (.cells (cells bs).toArray e (0, 0))
section
variable {w w' : World} {g : Nat} {e : TypeId} {bs : List UInt8}
theorem Blk.lt (h : Blk w g e bs) : g < w.heap.size := (Array.getElem?_eq_some_iff.1 h).1
theorem Blk.cell (h : Blk w g e bs) {j : Nat} (hj : j < bs.length) : w.cell? ⟨g, j, none⟩ = some (.int .u8 ((bs.getD j 0).toNat : Int)) := by
  rw [cell_of_row w g j _ e (0, 0) h]
  simpa using cells_at hj
theorem Blk.frozen (h : Blk w g e bs) (j : Nat) : w.frozen? ⟨g, j, none⟩ = false := frozen_of_row w g j _ e h
theorem Blk.drew (h : Blk w g e bs) : Blk w.drew g e bs := h
theorem Blk.alloc (h : Blk w g e bs) (o : Obj) : Blk (w.alloc o) g e bs := (Below.heap_alloc w o g h.lt).trans h
theorem Blk.set_ (h : Blk w g e bs) (j : Nat) (b : UInt8) : Blk (w.setCell ⟨g, j, none⟩ (.int .u8 (b.toNat : Int))) g e (bs.set j b) := by
  have := heap_setCell_same w g j (cells bs).toArray e (.int .u8 (b.toNat : Int)) h
  unfold Blk
  rw [this, ← cells_set]
  simp
theorem Blk.far (h : Blk w g e bs) {p : Addr} (hp : g ≠ p.block) (u : Value) : Blk (w.setCell p u) g e bs := (Below.heap_setCell w p u g hp).trans h
theorem Blk.below {B : Nat} (h : Blk w g e bs) (hb : Below B w w') (hg : g < B) : Blk w' g e bs := (hb.block g hg).trans h
theorem Blk.grown {row : Option Nat} (h : Blk w g e bs) (hb : w.grownBy w' row) (hg : some g ≠ row) : Blk w' g e bs := (hb.block g h.lt hg).trans h
theorem Blk.rd (h : Blk w g e bs) {n c : Nat} (hn : bs.length = n) (hc : n ≤ c) (hm : c ≤ maxLen) : RdS w (some ⟨g, 0, none⟩) n c bs :=
  ⟨hn, hc, hm, fun h => by simp at h, fun _ => ⟨g, 0, rfl, h.lt, fun j hj => by rw [Nat.zero_add]; exact h.cell (by omega)⟩⟩
theorem Blk.owns (h : Blk w g e bs) {n base : Nat} (hn : bs.length = n) (hm : n ≤ maxLen) (hb : base ≤ g) : w.ownsRow base e 1 (.slice (some ⟨g, 0, none⟩) n n) n (cells bs) :=
  ⟨by simp [length_cells, hn], .inr ⟨g, n, _, rfl, hb, h, Nat.le_refl _, hm, by simp [length_cells, hn], by simp [List.take_of_length_le, length_cells, hn]⟩⟩
theorem Blk.new (w : World) (e : TypeId) (bs : List UInt8) : Blk (w.alloc (.cells (cells bs).toArray e)) w.heap.size e bs := heap_alloc_new w _
end

theorem made_cells (n : Nat) : madeCells #[.int .u8 0] n = (cells (List.replicate n 0)).toArray := by
  rw [cells_replicate, ← Array.toList_inj, toList_madeCells_one]
  simp

/-- 'make([]byte, n)'. -/
theorem run_makeB {P : Program} {t e : TypeId} (ht : P.underlying t = some (.slice e)) (hi : (P.info? e).map (fun i => (i.zero, i.size, i.bytes)) = some (some (.int .u8 0), 1, 1))
    (kl kc : IntKind) (l c : Int) (n : Nat) (hl : l = n) (hc : c = n) (hb : n ≤ 281474976710656) (w : World) :
    (Instr.makeSlice t (.int kl l) (.int kc c)).run P w = .ok (.slice (some ⟨w.heap.size, 0, none⟩) n n) (w.alloc (.cells (cells (List.replicate n 0)).toArray e)) := by
  subst hl; subst hc
  obtain ⟨i, hi, hz, hs, hby⟩ := info_parts hi
  have := run_make (P := P) w t e i _ ht hi hz kl kc n n (by omega) (Int.le_refl _) (by rw [hby]; omega) (by omega)
  rw [this, hs]
  simp [Value.cells, made_cells]

section
variable {P : Program} (w : World)
theorem run_append_rd (base : Nat) {t e : TypeId} (ty : TypeId) (ht : P.underlying t = some (.slice e)) (hi : (P.info? e).map (fun i => (i.zero, i.size, i.bytes)) = some (some (.int .u8 0), 1, 1))
    (v : Value) (n : Nat) (xs : List UInt8) (hown : w.ownsRow base e 1 v n (cells xs)) (A : Option Addr) (m c : Nat) (news : List UInt8) (hr : RdS w A m c news)
    (h : n + m ≤ 140737488355328) (hbase : base ≤ w.heap.size) :
    ∃ v' w', (Builtin.append_ #[t, t] ty #[v, .slice A m c]).run P w = .ok v' w' ∧ w'.ownsRow base e 1 v' (n + m) (cells (xs ++ news)) ∧ w.grownBy w' v.ownBlock ∧
      (v'.ownBlock = v.ownBlock ∨ v'.ownBlock = some w.heap.size) := by
  obtain ⟨i, hi, hz, hs, hby⟩ := info_parts hi
  have hml : n + m ≤ maxLen := by simp only [maxLen]; omega
  rcases A with _ | ad
  · have hc : c = 0 := hr.2.2.2.1 rfl
    have hm : m = 0 := by have := hr.le; omega
    subst hm; subst hc
    have hn : news = [] := List.eq_nil_of_length_eq_zero hr.1
    subst hn
    exact ⟨v, w, run_append_owned_none w base t ty e i 1 ht hi v n _ hown, by simpa using hown, World.grownBy.refl w _, .inl rfl⟩
  · have hcells : ∀ j u, (cells news)[j]? = some u → w.cell? (ad.add j) = some u := by
      intro j u hu
      have hj : j < news.length := by
        rcases Nat.lt_or_ge j news.length with h | h
        · exact h
        · rw [List.getElem?_eq_none (by rw [length_cells]; exact h)] at hu; cases hu
      have hl := hr.len
      obtain ⟨b, off, hA, _, hc⟩ := hr.2.2.2.2 (by omega)
      injection hA with hA
      subst hA
      rw [Addr.add_lit, hc j (by omega)]
      rw [cells_at hj] at hu
      exact hu
    obtain ⟨v', w', hrun, h2, h3, _, h5⟩ := run_append_own_at (P := P) w base t ty e i _ 1 1 ht hi hz hs hby rfl (by omega) v n _ hown ad m c (cells news) (by rw [length_cells, hr.len]; omega) hcells (cells_one news) hml (by omega) hbase
    exact ⟨v', w', hrun, by rw [cells_append]; exact h2, h3, h5⟩

theorem wp_append_rd {o : Oper} {a : Act} {K : Act → World → Prop} {Q : Exit → Act → World → Prop} (s x : Operand) {t e : TypeId}
    (ho : o.op = .call { callee := .builtin .append, args := #[s, x], argTypes := #[t, t] }) (ht : P.underlying t = some (.slice e)) (hi : (P.info? e).map (fun i => (i.zero, i.size, i.bytes)) = some (some (.int .u8 0), 1, 1))
    (base : Nat) (v : Value) (n : Nat) (xs : List UInt8) (hs : a.eval s = v) (hown : w.ownsRow base e 1 v n (cells xs)) (A : Option Addr) (m c : Nat) (news : List UInt8) (hx : a.eval x = .slice A m c) (hr : RdS w A m c news)
    (h : n + m ≤ 140737488355328) (hbase : base ≤ w.heap.size)
    (hK : ∀ v' w', w'.ownsRow base e 1 v' (n + m) (cells (xs ++ news)) → w.grownBy w' v.ownBlock → (v'.ownBlock = v.ownBlock ∨ v'.ownBlock = some w.heap.size) → K (a.put o.dst v') w') : o.wp P a w K Q := by
  obtain ⟨v', w', hrun, h2, h3, h4⟩ := run_append_rd (P := P) w base o.type ht hi v n xs hown A m c news hr h hbase
  unfold Oper.wp execOp
  simp only [ho, resolve, invoke, builtin, Sem.run_bind, Sem.run_pure, Result.andThen_ok, List.map_toArray, List.map_cons, List.map_nil, hs, hx, hrun]
  exact hK v' w' h2 h3 h4

/-- 'append' of bytes that read, onto a row of the call's own, as a law of the walk. -/
theorem wpList_append_rd {ops : Array Oper} {rest : List Oper} {o : Oper} {a : Act} {Q : Exit → Act → World → Prop} (hgd : o.guard = none) (s x : Operand) {t e : TypeId}
    (ho : o.op = .call { callee := .builtin .append, args := #[s, x], argTypes := #[t, t] }) (ht : P.underlying t = some (.slice e)) (hi : (P.info? e).map (fun i => (i.zero, i.size, i.bytes)) = some (some (.int .u8 0), 1, 1))
    (base : Nat) (v : Value) (n : Nat) (xs : List UInt8) (hs : a.eval s = v) (hown : w.ownsRow base e 1 v n (cells xs)) (A : Option Addr) (m c : Nat) (news : List UInt8) (hx : a.eval x = .slice A m c) (hr : RdS w A m c news)
    (h : n + m ≤ 140737488355328) (hbase : base ≤ w.heap.size)
    (hK : ∀ v' w', w'.ownsRow base e 1 v' (n + m) (cells (xs ++ news)) → w.grownBy w' v.ownBlock → (v'.ownBlock = v.ownBlock ∨ v'.ownBlock = some w.heap.size) → wpList P ops Q rest (a.put o.dst v') w') : wpList P ops Q (o :: rest) a w :=
  wpList_plain hgd fun _ hK2 => wp_append_rd w s x ho ht hi base v n xs hs hown A m c news hx hr h hbase fun v' w' h2 h3 h4 => hK2 _ _ (hK v' w' h2 h3 h4)

/-- 'copy' of bytes that read over the head of a block of bytes, as a law of the walk. -/
theorem wpList_copy_rd {ops : Array Oper} {rest : List Oper} {o : Oper} {a : Act} {Q : Exit → Act → World → Prop} (hgd : o.guard = none) (d s : Operand) {t e : TypeId}
    (ho : o.op = .call { callee := .builtin .copy, args := #[d, s], argTypes := #[t, t] }) (ht : P.underlying t = some (.slice e)) (hi : (P.info? e).map (fun i => (i.zero, i.size, i.bytes)) = some (some (.int .u8 0), 1, 1))
    (g n c : Nat) (old : List UInt8) (hd : a.eval d = .slice (some ⟨g, 0, none⟩) n c) (hg : Blk w g e old) (A : Option Addr) (m cm : Nat) (news : List UInt8) (hs : a.eval s = .slice A m cm) (hr : RdS w A m cm news)
    (hm : m ≤ n) (hn : n ≤ old.length) (w0 : World) (hb : Below g w0 w)
    (hK : ∀ w', Blk w' g e (news ++ old.drop m) → Below g w0 w' → wpList P ops Q rest (a.put o.dst (goInt m)) w') : wpList P ops Q (o :: rest) a w := by
  obtain ⟨i, hi, _, hs1, _⟩ := info_parts hi
  have hl := hr.len
  have := wpList_copy_splice (P := P) (w := w) (ops := ops) (rest := rest) (o := o) (a := a) (Q := Q) hgd d s t t ho e ht (by rw [hi]; simp [hs1]) (some ⟨g, 0, none⟩) A n c m cm hd hs g 0 (cells old) e hg (cells news)
    (by rw [length_cells, hl]; exact (Nat.min_eq_left hm).symm) (fun h0 => ⟨rfl, by
      rw [length_cells] at h0
      obtain ⟨b, off, hA, _, hc⟩ := hr.2.2.2.2 (by omega)
      refine ⟨_, hA, fun j u hu => ?_⟩
      have hj : j < news.length := by
        rcases Nat.lt_or_ge j news.length with h | h
        · exact h
        · rw [List.getElem?_eq_none (by rw [length_cells]; exact h)] at hu; cases hu
      rw [Addr.add_lit, hc j (by omega)]
      rw [cells_at hj] at hu
      exact hu⟩) (by simp only [length_cells]; omega) (cells_one news) g w0 hb (Nat.le_refl _)
  rw [length_cells, hl] at this
  refine this fun w' hg' hb' => hK w' ?_ hb'
  have h2 := hg'.out
  unfold Blk
  rw [h2]
  simp [splice, cells, hl]
end

theorem own_form {w : World} {base : Nat} {e : TypeId} {v : Value} {n : Nat} {xs : List Value} (h : w.ownsRow base e 1 v n xs) : ∃ A c, v = .slice A n c := by
  rcases h.2 with ⟨rfl, rfl⟩ | ⟨g, cap, cur, rfl, _⟩
  · exact ⟨none, 0, rfl⟩
  · exact ⟨_, cap, rfl⟩
end Go.Proofs.Ytehnnnhbgjfdgaa
