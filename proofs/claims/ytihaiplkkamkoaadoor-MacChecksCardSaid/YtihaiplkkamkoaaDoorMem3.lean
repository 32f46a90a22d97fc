/- Plain words, for any program: bytes copied over the head of a block of bytes, whatever its type is called; slices of slices of bytes, and one put ahead of others. No statement is proved here. -/
import Derived.Test.YtihaiplkkamkoaaDoorMem2
import Derived.Test.YtihaiplkkamkoaaDoorSha6
namespace Go.Proofs.YtihaiplkkamkoaaDoor
open Go.RowKit

theorem Blk.only {w w' : World} {g k : Nat} {e : TypeId} {bs : List UInt8} (h : Blk w g e bs) (hb : Only k w w') (hg : g ≠ k) : Blk w' g e bs := (hb.block g hg).trans h

/-- 'copy' of bytes that read over the head of a block of bytes. -/
theorem wpList_copy_hd {P : Program} {w : World} {ops : Array Oper} {rest : List Oper} {o : Oper} {a : Act} {Q : Exit → Act → World → Prop} (hgd : o.guard = none) (d s : Operand) {t e : TypeId}
    (ho : o.op = .call { callee := .builtin .copy, args := #[d, s], argTypes := #[t, t] }) (ht : P.underlying t = some (.slice e)) (hi : (P.info? e).map (fun i => (i.zero, i.size, i.bytes)) = some (some (.int .u8 0), 1, 1))
    (g n c : Nat) (tb : TypeId) (old : List UInt8) (hd : a.eval d = .slice (some ⟨g, 0, none⟩) n c) (hg : Blk w g tb old) (A : Option Addr) (m cm : Nat) (news : List UInt8) (hs : a.eval s = .slice A m cm) (hr : RdS w A m cm news)
    (hm : m ≤ n) (hn : n ≤ old.length)
    (hK : ∀ w', Blk w' g tb (news ++ old.drop m) → Below g w w' → wpList P ops Q rest (a.put o.dst (goInt m)) w') : wpList P ops Q (o :: rest) a w := by
  obtain ⟨i, hi, _, hs1, _⟩ := info_parts hi
  have hl := hr.len
  have := wpList_copy_splice (P := P) (w := w) (ops := ops) (rest := rest) (o := o) (a := a) (Q := Q) hgd d s t t ho e ht (by rw [hi]; simp [hs1]) (some ⟨g, 0, none⟩) A n c m cm hd hs g 0 (cells old) tb hg (cells news)
    (by rw [length_cells, hl]; exact (Nat.min_eq_left hm).symm) (fun h0 => ⟨rfl, by
      rw [length_cells] at h0
      obtain ⟨b, off, hA, _, hc⟩ := hr.2.2.2.2 (by omega)
      refine ⟨_, hA, fun j u hu => ?_⟩
      have hj : j < news.length := by
        rcases Nat.lt_or_ge j news.length with h | h
        · exact h
        · rw [List.getElem?_eq_none (by rw [length_cells]; exact h)] at hu; cases hu
      rw [Addr.add_lit, hc j (by omega)]
      rw [cells_at hj] at hu
      exact hu⟩) (by simp only [length_cells]; omega) (cells_one news) g w (Below.refl _ _) (Nat.le_refl _)
  rw [length_cells, hl] at this
  refine this fun w' hg' hb' => hK w' ?_ hb'
  have h2 := hg'.out
  unfold Blk
  rw [h2]
  simp [splice, cells, hl]

theorem parts_lit1 {w : World} {A : Option Addr} {n c : Nat} {bs : List UInt8} (h : RdS w A n c bs) (e : TypeId) : PartsRd (w.alloc (.cells #[.slice A n c] e)) (some ⟨w.heap.size, 0, none⟩) 1 [bs] := by
  refine ⟨rfl, fun _ => ⟨w.heap.size, 0, rfl, by simp, fun j hj => ?_⟩⟩
  obtain rfl : j = 0 := by omega
  exact ⟨A, n, c, (BlkV.new w e [.slice A n c]).cell 0, h.below ((Below.refl _ _).alloc (Nat.le_refl _) _)⟩
theorem parts_lit2 {w : World} {A B : Option Addr} {n c m d : Nat} {xs bs : List UInt8} (h : RdS w A n c xs) (k : RdS w B m d bs) (e : TypeId) : PartsRd (w.alloc (.cells #[.slice A n c, .slice B m d] e)) (some ⟨w.heap.size, 0, none⟩) 2 [xs, bs] := by
  refine ⟨rfl, fun _ => ⟨w.heap.size, 0, rfl, by simp, fun j hj => ?_⟩⟩
  have hb : Below w.heap.size w (w.alloc (.cells #[.slice A n c, .slice B m d] e)) := (Below.refl _ _).alloc (Nat.le_refl _) _
  rcases (show j = 0 ∨ j = 1 by omega) with rfl | rfl
  · exact ⟨A, n, c, (BlkV.new w e [.slice A n c, .slice B m d]).cell 0, h.below hb⟩
  · exact ⟨B, m, d, (BlkV.new w e [.slice A n c, .slice B m d]).cell 1, k.below hb⟩
/-- The values that lie there. -/
theorem PartsRd.vals {w : World} {A : Option Addr} {k : Nat} {ps : List (List UInt8)} (h : PartsRd w A k ps) : ∃ vs : List Value, vs.length = k ∧ (∀ v ∈ vs, v.oneCell' = true) ∧
    (∀ j, j < k → ∃ Aj nj cj, vs[j]? = some (.slice Aj nj cj) ∧ RdS w Aj nj cj (ps.getD j [])) ∧ (0 < k → ∃ b off, A = some ⟨b, off, none⟩ ∧ b < w.heap.size ∧ ∀ j, j < k → w.cell? ⟨b, off + j, none⟩ = vs[j]?) := by
  rcases Nat.eq_zero_or_pos k with rfl | hk
  · exact ⟨[], rfl, by simp, fun j hj => absurd hj (by omega), fun hj => absurd hj (by omega)⟩
  obtain ⟨b, off, rfl, hlt, hc⟩ := h.2 hk
  have hv : ∀ j, j < k → ((List.range k).map fun j => ((w.cell? ⟨b, off + j, none⟩).getD undef))[j]? = w.cell? ⟨b, off + j, none⟩ := fun j hj => by
    obtain ⟨_, _, _, h1, _⟩ := hc j hj
    simp [hj, h1]
  refine ⟨(List.range k).map fun j => ((w.cell? ⟨b, off + j, none⟩).getD undef), by simp, fun v hm => ?_, fun j hj => ?_, fun _ => ⟨b, off, rfl, hlt, fun j hj => (hv j hj).symm⟩⟩
  · obtain ⟨j, hj, rfl⟩ := List.mem_map.1 hm
    obtain ⟨_, _, _, h1, _⟩ := hc j (List.mem_range.1 hj)
    rw [h1]; rfl
  · obtain ⟨Aj, nj, cj, h1, h2⟩ := hc j hj
    exact ⟨Aj, nj, cj, by rw [hv j hj, h1], h2⟩
theorem PartsRd.of_own {w : World} {base : Nat} {e : TypeId} {A : Option Addr} {n c : Nat} {vs : List Value} {ps : List (List UInt8)} (h : w.ownsRow base e 1 (.slice A n c) n vs) (hl : ps.length = n)
    (hv : ∀ j, j < n → ∃ Aj nj cj, vs[j]? = some (.slice Aj nj cj) ∧ RdS w Aj nj cj (ps.getD j [])) : PartsRd w A n ps := by
  refine ⟨hl, fun hn => ?_⟩
  obtain ⟨g, cap, he, _, hg⟩ := h.form hn
  simp only [Value.slice.injEq] at he
  obtain ⟨rfl, _, rfl⟩ := he
  refine ⟨g, 0, rfl, hg, fun j hj => ?_⟩
  obtain ⟨Aj, nj, cj, h1, h2⟩ := hv j hj
  exact ⟨Aj, nj, cj, by rw [Nat.zero_add, h.cellAt j (by omega), h1], h2⟩

/-- One slice of bytes, and others behind it, as a law of the walk. -/
theorem wpList_append_parts {P : Program} {w : World} {ops : Array Oper} {rest : List Oper} {o : Oper} {a : Act} {Q : Exit → Act → World → Prop} (hgd : o.guard = none) (s x : Operand) {t e : TypeId}
    (ho : o.op = .call { callee := .builtin .append, args := #[s, x], argTypes := #[t, t] }) (ht : P.underlying t = some (.slice e)) (hi : (P.info? e).map (fun i => (i.zero, i.size, i.bytes)) = some (some (.slice none 0 0), 1, 24))
    (h : Nat) (A1 : Option Addr) (n1 c1 : Nat) (b1 : List UInt8) (hs : a.eval s = .slice (some ⟨h, 0, none⟩) 1 1) (hB : BlkV w h e [.slice A1 n1 c1]) (hr : RdS w A1 n1 c1 b1) (hoff : OffN A1 n1 h)
    (ad : Addr) (k c : Nat) (ps : List (List UInt8)) (hx : a.eval x = .slice (some ad) k c) (w0 : World) (hp : PartsRd w0 (some ad) k ps) (hb : Below w0.heap.size w0 w) (hh : w0.heap.size ≤ h) (hk : k ≤ 1000)
    (hK : ∀ A' c' w', PartsRd w' A' (1 + k) (b1 :: ps) → Below w0.heap.size w0 w' → w.grownBy w' (some h) → wpList P ops Q rest (a.put o.dst (.slice A' (1 + k) c')) w') : wpList P ops Q (o :: rest) a w := by
  obtain ⟨i, hi, hz, hs1, hby⟩ := info_parts hi
  obtain ⟨vs, hvl, hv1, hvr, hvc⟩ := (hp.below hb).vals
  have hown : w.ownsRow h e 1 (.slice (some ⟨h, 0, none⟩) 1 1) 1 [.slice A1 n1 c1] := ⟨rfl, .inr ⟨h, 1, _, rfl, Nat.le_refl _, hB, Nat.le_refl _, by simp [maxLen], by simp, by simp⟩⟩
  have hnews : ∀ j u, vs[j]? = some u → w.cell? (ad.add j) = some u := by
    intro j u hu
    have hj : j < k := by rw [← hvl]; exact (List.getElem?_eq_some_iff.1 hu).1
    obtain ⟨b, off, hA, _, hc⟩ := hvc (by omega)
    injection hA with hA
    subst hA
    rw [add_lit, hc j hj, hu]
  obtain ⟨v', w', hrun, hown', hg, _, hat⟩ := run_append_own_at (P := P) w h t o.type e i _ 1 24 ht hi hz hs1 hby rfl (by omega) _ 1 _ hown ad k c vs (by omega) hnews hv1 (by simp [maxLen]; omega) (by omega) (Nat.le_of_lt hB.lt)
  have hg' : w.grownBy w' (some h) := by simpa [Value.ownBlock] using hg
  obtain ⟨A', c', rfl⟩ := own_form hown'
  have hb' := hb.grown hg' hb.size (fun q hq => by injection hq with hq; omega)
  have hp' := hp.below hb'
  obtain ⟨ws, hwl, _, hwr, hwc⟩ := hp'.vals
  refine wpList_plain hgd fun _ hK2 => ?_
  unfold Oper.wp execOp
  simp only [ho, resolve, invoke, builtin, Sem.run_bind, Sem.run_pure, Result.andThen_ok, List.map_toArray, List.map_cons, List.map_nil, hs, hx, hrun]
  refine hK2 _ _ (hK A' c' w' (PartsRd.of_own hown' (by simp [hp.1]; omega) fun j hj => ?_) hb' hg')
  rcases Nat.eq_zero_or_pos j with rfl | hj0
  · exact ⟨A1, n1, c1, rfl, hr.keep hg' (fun q hq => by injection hq with hq; exact hq ▸ hoff)⟩
  · obtain ⟨j, rfl⟩ : ∃ i, j = i + 1 := ⟨j - 1, by omega⟩
    obtain ⟨Aj, nj, cj, h1, h2⟩ := hvr j (by omega)
    refine ⟨Aj, nj, cj, by simpa using h1, ?_⟩
    obtain ⟨b, off, hA, hlt, hc⟩ := hp.2 (by omega)
    obtain ⟨Bj, mj, dj, h3, h4⟩ := hc j (by omega)
    have e1 := (hb.cell (p := ⟨b, off + j, none⟩) hlt).trans h3
    obtain ⟨b', off', hA', _, hc'⟩ := hvc (by omega)
    rw [hA] at hA'
    simp only [Option.some.injEq, Addr.mk.injEq, and_true] at hA'
    obtain ⟨rfl, rfl⟩ := hA'
    rw [hc' j (by omega), h1] at e1
    simp only [Option.some.injEq, Value.slice.injEq] at e1
    obtain ⟨rfl, rfl, rfl⟩ := e1
    exact h4.below hb'
end Go.Proofs.YtihaiplkkamkoaaDoor
