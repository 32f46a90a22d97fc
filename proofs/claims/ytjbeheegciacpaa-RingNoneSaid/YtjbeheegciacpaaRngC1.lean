/- Contract of package ring: the first packets let go (cut). No statement is proved here. -/
import Derived.Test.YtjbeheegciacpaaRngI1
import Derived.Test.YtjbeheegciacpaaRngP3
import Derived.BigRegion
namespace Go.Proofs.Ytjbeheegciacpaa
open Go.RowKit Go.Sort
set_option linter.unusedVariables false

/-- So many zero packets' cells. -/
def zPks (n : Nat) : List Value := (Builtin.zeroCells zPk.cells n).toList
theorem zPks_len (n : Nat) : (zPks n).length = n * 2 := by
  unfold zPks; simp [Builtin.zeroCells, zPk, Value.cells]
theorem zPks_one (n : Nat) : ∀ v ∈ zPks n, v.oneCell' = true := by
  intro v hv
  unfold zPks at hv
  simp [Builtin.zeroCells, zPk, Value.cells] at hv
  obtain ⟨i, _, rfl⟩ := hv
  have h2 : i % 2 = 0 ∨ i % 2 = 1 := by omega
  rcases h2 with e | e <;> simp [e, Value.oneCell']
theorem zvPk : ∀ w, (zeroValue 54).run Try.prog w = .ok zPk w := fun w => by kernel_rfl
theorem run_clear2 (w : World) (ty : TypeId) (b o n c : Nat) (C : List Value) (hB : BlkV w b 54 C) (hl : o + n * 2 ≤ C.length) :
    (Builtin.clear_ #[46] ty #[.slice (some ⟨b, o, none⟩) n c]).run Try.prog w = .ok (.tuple #[]) (w.setCells b o (zPks n)) := by
  have hst := run_storeCells_cells (P := Try.prog) b o (zPks n) 0 w (fun j hj => by rw [zPks_len] at hj; rw [Nat.add_zero, hB.cell, List.getElem?_eq_getElem (by omega)]; rfl) (fun j hj => by rw [Nat.add_zero]; exact hB.frozen _) (zPks_one n)
  simp only [Nat.add_zero] at hst
  have hu := run_underlying Try.underlying46
  cases n with
  | zero => simp [Builtin.clear_, hu, zPks, Builtin.zeroCells, World.setCells]
  | succ n => 
    have e : (Builtin.zeroCells (Value.agg #[Value.int IntKind.i64 0, Value.slice none 0 0]).cells (n + 1)).toList = zPks (n + 1) := rfl
    simp only [Builtin.clear_]
    simp
    rw [e, hst]
    rfl

/-- The first packets' bytes counted off. -/
theorem sizD_split (L : List Pck) (k : Nat) : sizD L = sizD (L.take k) + sizD (L.drop k) := by
  rw [← sizD_append, List.take_append_drop]
theorem sizD_dropS (L : List Pck) (k : Nat) (h : k < L.length) : sizD (L.drop k) = L[k].2.length + sizD (L.drop (k + 1)) := by
  rw [List.drop_eq_getElem_cons h, sizD_cons]
/-- A ring whose first k packets' bytes are counted off. -/
structure CutW (w : World) (g : Nat) (s : Rgs) (A : Option Addr) (c : Nat) (k : Nat) (wr : World) : Prop where
  fr : Fr (fun j => j = g) w wr
  blk : BlkV wr g 48 [.int .i64 s.P, .int .i64 s.B, .slice A s.L.length c, .int .i64 (sizD (s.L.drop k) : Nat)]
theorem CutW.next {w wr : World} {g : Nat} {s : Rgs} {A : Option Addr} {c k : Nat} (h : CutW w g s A c k wr) (o : Obj) (q : Nat) : CutW w g s A c (k + 1) (((wr.setCell ⟨g, 3, none⟩ (.int .i64 (sizD (s.L.drop (k + 1)) : Nat))).alloc o).drewN q) := by
  have h1 := h.blk.set_ 3 (.int .i64 (sizD (s.L.drop (k + 1)) : Nat))
  have f1 := h.fr.trans (Fr.of_only (F := fun j => j = g) (Only.set wr g 3 (.int .i64 (sizD (s.L.drop (k + 1)) : Nat))) rfl) (fun i hi => .inl hi)
  have b1 : Below (wr.setCell ⟨g, 3, none⟩ (.int .i64 (sizD (s.L.drop (k + 1)) : Nat))).heap.size (wr.setCell ⟨g, 3, none⟩ (.int .i64 (sizD (s.L.drop (k + 1)) : Nat))) (((wr.setCell ⟨g, 3, none⟩ (.int .i64 (sizD (s.L.drop (k + 1)) : Nat))).alloc o).drewN q) := ((Below.refl _ _).alloc (Nat.le_refl _) o).trans ⟨rfl, rfl, rfl, Nat.le_refl _, fun _ _ => rfl⟩
  exact ⟨f1.then b1, h1.below b1 h1.lt⟩

set_option maxHeartbeats 4000000 in
set_option maxRecDepth 100000 in
theorem cut_some (w : World) (g : Nat) (s : Rgs) (b off : Nat) (c : Nat) (X : List Pks) (F : Nat → Prop) (m : Nat) (h : RAt w g s (some ⟨b, off, none⟩) c X F) (hm : m ≤ s.L.length) :
    Calls Try.prog 21 #[.pointer (some ⟨g, 0, none⟩), .int .i64 m] w fun e w' => e = .returned (.tuple #[]) ∧ Hid (∃ wr q, CutW w g s (some ⟨b, off, none⟩) c m wr ∧ w' = ((wr.setCells b off (zPks m)).drewN q).setCell ⟨g, 2, none⟩ (.slice (some (if c = m then ⟨b, off, none⟩ else ⟨b, off + m * 2, none⟩)) (s.L.length - m) (c - m))) := by
  have hc2 := h.c2
  have hlen := h.len
  have hle := h.row.le
  have hmax := h.row.max
  have hfew := h.few
  have hgb : b ≠ g := (h.ownr _ rfl).2
  have hrow := fun wr (hf : Fr (fun j => j = g) w wr) => h.row.stay (w' := wr) (fun a ha => by cases ha; exact hf.keep _ (h.low _ (h.ownr _ rfl).1) hgb)
  have HR := Lib.hid hrow
  have HC0 : Hid (CutW w g s (some ⟨b, off, none⟩) c 0 w) := Lib.hid ⟨Fr.refl _ _, by rw [List.drop_zero]; exact h.blk⟩
  have hsz : ∀ k, sizD (s.L.drop k) ≤ 1000000000 := fun k => by have := sizD_split s.L k; have := h.small; omega
  have hXL : ∀ k (h1 : k < X.length) (h2 : k < s.L.length), X[k].1.2.length = (s.L[k]'h2).2.length := fun k h1 h2 => by simp [← h.eq]
  have HSZ := Lib.hid hsz
  have HXL := Lib.hid hXL
  clear hrow h hsz hXL
  obtain ⟨n, hn⟩ : ∃ n, n = s.L.length := ⟨_, rfl⟩
  rw [← hn] at hc2 hlen hfew hm ⊢
  have HN := Lib.hid hn
  clear hn
  unfold maxLen at hmax
  go_enter Try.func21, Try.ntmps21
  go_wp2
  go_loopw [16] (fun vi wr => ∃ k : Nat, k ≤ m ∧ vi = .int .i64 k ∧ Hid (CutW w g s (some ⟨b, off, none⟩) c k wr)) (fun i _ => m - (intOf i).toNat)
  case atStart => exact ⟨0, by omega, rfl, HC0⟩
  case round =>
    obtain ⟨k, hk, rfl, HC⟩ := hrel
    by_cases hlt : k < m
    · obtain ⟨b', off', hA, hb, r0, r1⟩ := (HR.out wr HC.out.fr).at0 (k := k) (by omega)
      cases hA
      have hB := HC.out.blk
      have hg3 := (hB.cell 3).trans rfl
      have hf3 := hB.frozen 3
      have hgw := hB.lt
      have hst := sizD_dropS s.L k (by rw [← HN.out]; omega)
      rw [← HXL.out k (by omega) (by rw [← HN.out]; omega)] at hst
      have hs1 := HSZ.out k
      obtain ⟨z1, hz1⟩ : ∃ z1, z1 = sizD (s.L.drop k) := ⟨_, rfl⟩
      obtain ⟨z2, hz2⟩ : ∃ z2, z2 = sizD (s.L.drop (k + 1)) := ⟨_, rfl⟩
      obtain ⟨l, hl⟩ : ∃ l, l = X[k].1.2.length := ⟨_, rfl⟩
      obtain ⟨A1, hA1⟩ : ∃ A1, A1 = X[k].2.1 := ⟨_, rfl⟩
      obtain ⟨c1, hc1⟩ : ∃ c1, c1 = X[k].2.2 := ⟨_, rfl⟩
      obtain ⟨y, hy⟩ : ∃ y, y = X[k].1.1 := ⟨_, rfl⟩
      rw [← hy] at r0
      rw [← hA1, ← hl, ← hc1] at r1
      rw [← hz1] at hg3 hs1
      rw [← hz1, ← hz2, ← hl] at hst
      have HNX : Hid (∀ o q, CutW w g s (some ⟨b, off, none⟩) c (k + 1) (((wr.setCell ⟨g, 3, none⟩ (.int .i64 (z2 : Nat))).alloc o).drewN q)) := Lib.hid (fun o q => by rw [hz2]; exact HC.out.next o q)
      have hzi : (z1 : Int) - (l : Int) = (z2 : Int) := by omega
      have hki : (k : Int) < (m : Int) := by omega
      clear hst hz1 hz2 hl hA1 hc1 hy HC HR hB
      go_wp2
      go_region
      go_wp2
      go_roundw
      case rel => exact ⟨k + 1, by omega, by go_num, Lib.hid (HNX.out _ 1)⟩
      case measure => simp [intOf]; omega
    · obtain rfl : k = m := by omega
      have hB := HC.out.blk
      have hgw := hB.lt
      obtain ⟨b', off', C, hA, hBb, hl, hr⟩ := (HR.out wr HC.out.fr).some_ _ rfl
      cases hA
      have hcl : ∀ ty, (Builtin.clear_ #[46] ty #[.slice (some ⟨b, off, none⟩) k k]).run Try.prog wr = .ok (.tuple #[]) (wr.setCells b off (zPks k)) := fun ty => run_clear2 wr ty b off k k C hBb (by omega)
      have hB2 := hB.only (set_cells b (zPks k) off wr C hBb (by rw [zPks_len]; omega)).2 (fun e => hgb e.symm)
      have hg2 : (wr.setCells b off (zPks k)).drew.cell? ⟨g, 2, none⟩ = some (.slice (some ⟨b, off, none⟩) n c) := (hB2.cell 2).trans (by rw [HN.out]; rfl)
      have hf2 : (wr.setCells b off (zPks k)).drew.frozen? ⟨g, 2, none⟩ = false := hB2.frozen 2
      obtain ⟨W, hW⟩ : ∃ W, W = wr.setCells b off (zPks k) := ⟨_, rfl⟩
      rw [← hW] at hcl hg2 hf2
      have HE : Hid (∃ wr q, CutW w g s (some ⟨b, off, none⟩) c k wr ∧ ((W.drew).setCell ⟨g, 2, none⟩ (.slice (some (if c = k then ⟨b, off, none⟩ else ⟨b, off + k * 2, none⟩)) (n - k) (c - k))) = ((wr.setCells b off (zPks k)).drewN q).setCell ⟨g, 2, none⟩ (.slice (some (if c = k then ⟨b, off, none⟩ else ⟨b, off + k * 2, none⟩)) (n - k) (c - k))) := Lib.hid ⟨wr, 1, HC.out, by rw [hW]; rfl⟩
      have h1 : (k : Int) ≤ (n : Int) := by omega
      have h2 : (n : Int) ≤ (c : Int) := by omega
      clear hB hB2 HC HR hr hBb hW HSZ HXL HC0 hl
      go_wp2
      by_cases hck : c = k
      · subst hck
        obtain rfl : n = c := by omega
        rw [if_pos rfl] at HE
        go_region
        go_end0
        obtain ⟨wz, q, h1, h2⟩ := HE.out
        exact ⟨rfl, Lib.hid ⟨wz, q, h1, by rw [if_pos rfl, ← h2, Nat.sub_self]; rfl⟩⟩
      · rw [if_neg hck] at HE
        go_region
        go_end0
        obtain ⟨wz, q, h1, h2⟩ := HE.out
        exact ⟨rfl, Lib.hid ⟨wz, q, h1, by rw [if_neg hck, ← h2]; rfl⟩⟩

/-- What is behind it. -/
def Cutd (w : World) (g : Nat) (s : Rgs) (X : List Pks) (F : Nat → Prop) (m : Nat) (w' : World) : Prop := ∃ A' c', RAt w' g ⟨s.P, s.B, s.L.drop m⟩ A' c' (X.drop m) F ∧ Fr F w w'
theorem Fr.drewN {F : Nat → Prop} {w w' : World} (h : Fr F w w') (q : Nat) : Fr F w (w'.drewN q) := h.then ⟨rfl, rfl, rfl, Nat.le_refl _, fun _ _ => rfl⟩
theorem cut_is (w : World) (g : Nat) (s : Rgs) (b off c : Nat) (X : List Pks) (F : Nat → Prop) (m q : Nat) (wr : World) (h : RAt w g s (some ⟨b, off, none⟩) c X F) (hm : m ≤ s.L.length) (hC : CutW w g s (some ⟨b, off, none⟩) c m wr) :
    Cutd w g s X F m (((wr.setCells b off (zPks m)).drewN q).setCell ⟨g, 2, none⟩ (.slice (some (if c = m then ⟨b, off, none⟩ else ⟨b, off + m * 2, none⟩)) (s.L.length - m) (c - m))) := by
  have hbF := (h.ownr _ rfl).1
  have hbg : b ≠ g := (h.ownr _ rfl).2
  have hlen := h.len
  have hle := h.row.le
  have hz := zPks_len m
  obtain ⟨b', off', C, hA, hB, hl, hr⟩ := (h.row.stay (w' := wr) (fun a ha => by cases ha; exact hC.fr.keep _ (h.low _ hbF) hbg)).some_ _ rfl
  cases hA
  obtain ⟨s1, s2⟩ := set_cells b (zPks m) off wr C hB (by omega)
  obtain ⟨W, hW⟩ : ∃ W, W = (wr.setCells b off (zPks m)).drewN q := ⟨_, rfl⟩
  have t1 : BlkV W b 54 (splice C off (zPks m)) := by rw [hW]; exact s1
  have f1 : Fr F w W := by
    rw [hW]
    exact (((hC.fr.mono (fun i hi => by rw [hi]; exact h.own)).trans (Fr.of_only (F := F) s2 hbF) (fun i hi => .inl hi))).drewN q
  have g1 : BlkV W g 48 [.int .i64 s.P, .int .i64 s.B, .slice (some ⟨b, off, none⟩) s.L.length c, .int .i64 (sizD (s.L.drop m) : Nat)] := by rw [hW]; exact BlkV.only (w' := wr.setCells b off (zPks m)) hC.blk s2 (fun e => hbg e.symm)
  have kept : ∀ j, j < w.heap.size → j ≠ g → j ≠ b → W.heap[j]? = w.heap[j]? := fun j hj h1 h2 => by
    rw [hW]
    exact (s2.block j h2).trans (hC.fr.keep j hj h1)
  rw [← hW]
  clear hW s1 s2
  obtain ⟨A', hA'⟩ : ∃ A' : Addr, A' = (if c = m then (⟨b, off, none⟩ : Addr) else ⟨b, off + m * 2, none⟩) := ⟨_, rfl⟩
  rw [← hA']
  have hAb : A'.block = b := by rw [hA']; split <;> rfl
  have hO := Only.set W g 2 (.slice (some A') (s.L.length - m) (c - m))
  refine ⟨some A', c - m, ⟨?_, ?_, ?_, ?_, ?_, h.own, ?_, ?_, ?_, ?_, h.rooms⟩, f1.trans (Fr.of_only (F := F) hO h.own) (fun i hi => .inl hi)⟩
  · have := g1.set_ 2 (.slice (some A') (s.L.length - m) (c - m))
    rw [List.length_drop]
    exact this
  · refine ⟨by rw [List.length_drop]; omega, by have := h.row.max; omega, (fun e => nomatch e), fun a ha => ?_⟩
    cases ha
    refine ⟨b, if c = m then off else off + m * 2, splice C off (zPks m), by rw [hA']; split <;> rfl, t1.only hO hbg, by rw [splice_len _ _ _ (by omega)]; split <;> omega, fun j v hj => ?_⟩
    have hj2 : j < (rowC (X.drop m)).length := by
      rcases Nat.lt_or_ge j (rowC (X.drop m)).length with h | h
      · exact h
      · rw [List.getElem?_eq_none h] at hj; cases hj
    rw [rowC_len, List.length_drop] at hj2
    rw [if_neg (by omega), splice_get _ _ _ (by omega), if_neg (by omega), if_neg (by omega)]
    rw [rowC_drop, List.getElem?_drop] at hj
    rw [Nat.add_assoc]
    exact hr _ v hj
  · rw [List.map_drop, h.eq]
  · intro x hx
    have hx2 := List.mem_of_mem_drop hx
    refine (h.rd x hx2).stay (Nat.le_trans f1.size (by rw [hO.size]; exact Nat.le_refl _)) (fun hn ad hA => ?_)
    obtain ⟨o1, o2, o3⟩ := h.off x hx2 hn ad hA
    have o4 := o3 _ rfl
    exact (hO.block _ o2).trans (kept _ (h.low _ o1) o2 o4)
  · intro x hx hn ad hA
    obtain ⟨o1, o2, o3⟩ := h.off x (List.mem_of_mem_drop hx) hn ad hA
    exact ⟨o1, o2, fun a ha => by cases ha; rw [hAb]; exact o3 _ rfl⟩
  · intro a ha
    cases ha
    rw [hAb]
    exact ⟨hbF, hbg⟩
  · intro k hk
    rw [hO.size]
    exact Nat.lt_of_lt_of_le (h.low k hk) f1.size
  · have := h.few
    show (s.L.drop m).length ≤ 201
    rw [List.length_drop]; omega
  · have h1 := h.small
    have h2 := sizD_split s.L m
    show sizD (s.L.drop m) ≤ _
    omega

set_option maxHeartbeats 4000000 in
set_option maxRecDepth 100000 in
theorem cut_any (w : World) (g : Nat) (s : Rgs) (A : Option Addr) (c : Nat) (X : List Pks) (F : Nat → Prop) (m : Nat) (h : RAt w g s A c X F) (hm : m ≤ s.L.length) :
    Calls Try.prog 21 #[.pointer (some ⟨g, 0, none⟩), .int .i64 m] w fun e w' => e = .returned (.tuple #[]) ∧ Hid (Cutd w g s X F m w') := by
  cases A with
  | some a =>
    obtain ⟨b, off, C, rfl, _⟩ := h.row.some_ a rfl
    exact (cut_some w g s b off c X F m h hm).mono fun e w' ⟨h1, h2⟩ => ⟨h1, Lib.hid (by
      obtain ⟨wr, q, h3, rfl⟩ := h2.out
      exact cut_is w g s b off c X F m q wr h hm h3)⟩
  | none =>
    have hc := h.row.nil_ rfl
    have hl := h.row.le
    have hlen := h.len
    obtain rfl : m = 0 := by omega
    subst hc
    have hc2 := h.c2
    rw [show s.L.length = 0 by omega] at hc2
    have hO := fun q => Only.set (w.drewN q) g 2 (.slice none 0 0)
    have HE : Hid (∀ q, Cutd w g s X F 0 ((w.drewN q).setCell ⟨g, 2, none⟩ (.slice none 0 0))) := Lib.hid (fun q => by
      have e : (w.drewN q).heap[g]? = w.heap[g]? := rfl
      have hB := h.blk
      rw [show s.L.length = 0 by omega] at hB
      have e2 : ∀ k, ((w.drewN q).setCell ⟨g, 2, none⟩ (.slice none 0 0)).heap[k]? = w.heap[k]? := fun k => by
        by_cases hk : k = g
        · subst hk
          exact (BlkV.set_ (w := w.drewN q) hB 2 (.slice none 0 0)).trans hB.symm
        · exact (hO q).block k hk
      refine ⟨none, 0, ?_, ?_⟩
      · rw [List.drop_zero, List.drop_zero]
        exact h.stay (by rw [(hO q).size]; exact Nat.le_refl _) (fun k _ => e2 k)
      · exact (Fr.refl F w).drewN q |>.trans (Fr.of_only (F := F) (hO q) h.own) (fun i hi => .inl hi))
    have hg2 : w.drew.cell? ⟨g, 2, none⟩ = some (.slice none 0 0) := hc2
    have hf2 : w.drew.frozen? ⟨g, 2, none⟩ = false := h.blk.frozen 2
    have hgw := h.blk.lt
    have HCL : Hid (∀ ty (W : World), (Builtin.clear_ #[46] ty #[.slice none 0 0]).run Try.prog W = .ok (.tuple #[]) W) := Lib.hid (fun ty W => by simp [Builtin.clear_, run_underlying Try.underlying46])
    clear h hl hlen hO
    go_enter Try.func21, Try.ntmps21
    go_wp2
    go_loopw [16] (fun vi wr => vi = .int .i64 0 ∧ wr = w) (fun i _ => 0)
    case atStart => exact ⟨rfl, rfl⟩
    case round =>
      obtain ⟨rfl, rfl⟩ := hrel
      have hcl := HCL.out
      go_wp2
      go_region
      go_end0
      exact ⟨rfl, Lib.hid (HE.out 1)⟩
end Go.Proofs.Ytjbeheegciacpaa
