/- Several texts in one: plain words and walks. No statement is proved here. -/
import Derived.Test.YtmkeioeodlidgaaGreatDoorZM15
import Derived.Test.YtmkeioeodlidgaaGreatDoorZM14
import Derived.Maps.OwnSet
namespace Go.Proofs.YtmkeioeodlidgaaGreatDoor
open Go.RowKit Go.ChangeMaps Go.Maps
set_option linter.unusedVariables false

def MapW (w : World) (b : Nat) (ws : List (Nat × List Int)) : Prop :=
 ∃ es clock, w.heap[b]? = some (.map es clock) ∧ es.size = ws.length ∧ (ws.map (·.1)).Nodup ∧
   ∀ i, i < ws.length → ∃ e h p, es[i]? = some e ∧ e.key = .int .u32 ((ws.getD i (0, [])).1 : Int) ∧ e.val = .agg #[.int .i64 h, .int .u64 (p : Nat)] ∧ WinS (ws.getD i (0, [])).2 h p
theorem MapW.lt {w : World} {b : Nat} {ws : List (Nat × List Int)} (h : MapW w b ws) : b < w.heap.size := by
 obtain ⟨es, clock, hb, _⟩ := h
 exact (Array.getElem?_eq_some_iff.1 hb).1
theorem MapW.stay {w w2 : World} {b : Nat} {ws : List (Nat × List Int)} (h : MapW w b ws) (hs : w2.heap[b]? = w.heap[b]?) : MapW w2 b ws := by
 obtain ⟨es, clock, hb, r⟩ := h
 exact ⟨es, clock, hs.trans hb, r⟩
theorem MapW.below {w w2 : World} {b : Nat} {ws : List (Nat × List Int)} (h : MapW w b ws) (hb : Below w.heap.size w w2) : MapW w2 b ws := h.stay (hb.block b h.lt)
theorem MapW.made (w : World) : MapW (w.alloc (.map #[] 0)) w.heap.size [] := ⟨#[], 0, (MapKept.heap_alloc w _).1, rfl, List.nodup_nil, fun i hi => absurd hi (Nat.not_lt_zero i)⟩
theorem map_blk {w : World} {b g : Nat} {ws : List (Nat × List Int)} {e : TypeId} {cs : List Value} (h : MapW w b ws) (hB : BlkV w g e cs) : b ≠ g := by
 rintro rfl
 obtain ⟨es, clock, hb, _⟩ := h
 unfold BlkV at hB
 rw [hb] at hB
 exact nomatch hB
theorem keyU {x : Nat} (hx : x < 4294967296) : keyOf Tryz.prog 33 (.int .u32 (x : Int)) = some (.int .u32 (x : Int)) :=
 keyOf_int_mk Tryz.underlying33 (by
  show (decide (IntKind.u32.min ≤ (x : Int)) && decide ((x : Int) ≤ IntKind.u32.max)) = true
  rw [show IntKind.u32.min = 0 from rfl, show IntKind.u32.max = 4294967295 from rfl]
  simp
  omega)
theorem keyed32 : Keyed Tryz.prog 33 := int_keyed Tryz.underlying33
theorem MapW.spot {es : Array MapEntry} {ws : List (Nat × List Int)} (hs : es.size = ws.length) (hn : (ws.map (·.1)).Nodup)
 (he : ∀ i, i < ws.length → ∃ e h p, es[i]? = some e ∧ e.key = .int .u32 ((ws.getD i (0, [])).1 : Int) ∧ e.val = .agg #[.int .i64 h, .int .u64 (p : Nat)] ∧ WinS (ws.getD i (0, [])).2 h p) {x : Nat} :
 (∀ j e, es[j]? = some e → e.key = .int .u32 (x : Int) → atW ws x = some j) ∧ ((∀ e ∈ es.toList, e.key ≠ .int .u32 (x : Int)) → atW ws x = none) := by
 refine ⟨fun j e hj hk => ?_, fun hno => ?_⟩
 · have hjl : j < ws.length := hs ▸ (Array.getElem?_eq_some_iff.1 hj).1
   obtain ⟨e2, h, p, h1, h2, _⟩ := he j hjl
   rw [hj] at h1
   injection h1 with h1
   subst h1
   rw [hk] at h2
   have hx : x = (ws.getD j (0, [])).1 := by
    injection h2 with _ h2
    omega
   match ha : atW ws x with
   | none => exact absurd hx.symm ((atW_none ha).2 j hjl)
   | some i =>
     obtain ⟨hi, hi2, _⟩ := atW_some ha
     have e1 : (ws.map (·.1))[i]'(by simpa using hi) = (ws.map (·.1))[j]'(by simpa using hjl) := by
      simp only [List.getElem_map]
      have a1 : (ws.getD i (0, [])) = ws[i] := by simp [List.getD, hi]
      have a2 : (ws.getD j (0, [])) = ws[j] := by simp [List.getD, hjl]
      rw [← a1, ← a2, hi2, hx]
     have hp := List.pairwise_iff_getElem.1 hn
     rcases Nat.lt_trichotomy i j with k | k | k
     · exact absurd e1 (hp i j (by simpa using hi) (by simpa using hjl) k)
     · rw [k]
     · exact absurd e1.symm (hp j i (by simpa using hjl) (by simpa using hi) k)
 · match ha : atW ws x with
   | none => rfl
   | some i =>
     obtain ⟨hi, hi2, _⟩ := atW_some ha
     obtain ⟨e, h, p, h1, h2, _⟩ := he i hi
     rw [hi2] at h2
     exact absurd h2 (hno e (List.mem_of_getElem? (by simpa using h1)))
theorem MapW.keys {es : Array MapEntry} {ws : List (Nat × List Int)} (hs : es.size = ws.length) (hlt : ∀ y ∈ ws, y.1 < 4294967296)
 (he : ∀ i, i < ws.length → ∃ e h p, es[i]? = some e ∧ e.key = .int .u32 ((ws.getD i (0, [])).1 : Int) ∧ e.val = .agg #[.int .i64 h, .int .u64 (p : Nat)] ∧ WinS (ws.getD i (0, [])).2 h p) :
 ∀ e ∈ es.toList, ∃ l, keyOf Tryz.prog 33 e.key = some l := by
 intro e hm
 obtain ⟨i, hi, hie⟩ := List.getElem_of_mem hm
 have hil : i < ws.length := by rw [← hs]; simpa using hi
 obtain ⟨e2, h, p, h1, h2, _⟩ := he i hil
 have : e = e2 := by
  have h3 : es[i]? = some e := by
   have := List.getElem?_eq_getElem hi
   rw [hie] at this
   simpa using this
  rw [h3] at h1
  exact Option.some.inj h1
 subst this
 rw [h2]
 have hm2 : ws.getD i (0, []) ∈ ws := by
  have a1 : (ws.getD i (0, [])) = ws[i] := by simp [List.getD, hil]
  rw [a1]
  exact List.getElem_mem hil
 exact ⟨_, keyU (hlt _ hm2)⟩
theorem MapW.look {w : World} {b : Nat} {ws : List (Nat × List Int)} (h : MapW w b ws) (hlt : ∀ y ∈ ws, y.1 < 4294967296) {x : Nat} (hx : x < 4294967296) :
 ∃ (hh : Int) (p : Nat), WinS (winW ws x) hh p ∧ ∀ c, (Instr.lookup 63 (.map (some b)) (.int .u32 (x : Int)) c).run Tryz.prog w = .ok (if c then .tuple #[.agg #[.int .i64 hh, .int .u64 (p : Int)], .bool (atW ws x).isSome] else .agg #[.int .i64 hh, .int .u64 (p : Int)]) w := by
 obtain ⟨es, clock, hb, hs, hn, he⟩ := h
 have hkey := keyU hx
 have sp := MapW.spot (x := x) hs hn he
 rcases keyed32.find w hkey es.toList (MapW.keys hs hlt he) with ⟨h1, h2⟩ | ⟨j, e0, h1, h2, h3⟩
 · have ha := sp.2 h2
   refine ⟨0, 0, by rw [winW_none ha]; exact WinS.nil, fun c => ?_⟩
   rw [ha]
   cases c <;> simp [Instr.lookup, run_underlying Tryz.underlying63, MapKept.run_getObj_map hb, keyed32.check w _ hkey, h1, Result.andThen]
 · have hj : es[j]? = some e0 := by simpa using h2
   have ha := sp.1 j e0 hj h3
   obtain ⟨hjl, hj2, hj3⟩ := atW_some ha
   obtain ⟨e, hh, p, k1, k2, k3, k4⟩ := he j hjl
   rw [hj] at k1
   injection k1 with k1
   subst k1
   refine ⟨hh, p, by rw [winW_some ha]; exact k4, fun c => ?_⟩
   rw [ha]
   cases c <;> simp [Instr.lookup, run_underlying Tryz.underlying63, MapKept.run_getObj_map hb, keyed32.check w _ hkey, h1, k3, Result.andThen]
theorem MapW.len_ {w : World} {b : Nat} {ws : List (Nat × List Int)} (h : MapW w b ws) (ty : TypeId) : (Builtin.len_ #[63] ty #[.map (some b)]).run Tryz.prog w = .ok (.int .i64 (ws.length : Nat)) w := by
 obtain ⟨es, clock, hb, hs, _⟩ := h
 rw [← hs]
 simp [Builtin.len_, run_underlying Tryz.underlying63, MapKept.run_getObj_map hb, goInt, Result.andThen]
theorem names_put {ws : List (Nat × List Int)} {x : Nat} {L : List Int} (hn : (ws.map (·.1)).Nodup) : ((putY ws x L).map (·.1)).Nodup := by
 match ha : atW ws x with
 | none =>
   rw [putY_none L ha, List.map_append]
   refine List.nodup_append.2 ⟨hn, by simp, fun a h1 b h2 => ?_⟩
   have hb2 : b = x := by simpa using h2
   subst hb2
   rintro rfl
   obtain ⟨y, hy, rfl⟩ := List.mem_map.1 h1
   obtain ⟨i, hi, e⟩ := List.getElem_of_mem hy
   exact (atW_none ha).2 i hi (by rw [← e]; simp [List.getD, hi])
 | some i =>
   obtain ⟨hi, _, _⟩ := atW_some ha
   rw [putY_some L ha]
   have : (ws.set i ((ws.getD i (0, [])).1, L)).map (·.1) = ws.map (·.1) := by
    rw [List.map_set]
    refine List.ext_getElem? fun j => ?_
    rw [List.getElem?_set]
    by_cases e : i = j
    · subst e; simp [hi, List.getD]
    · rw [if_neg e]
   rw [this]
   exact hn
theorem only_block {w : World} {b : Nat} {es : Array MapEntry} {clock : Nat} (hb : w.heap[b]? = some (.map es clock)) (o : Obj) : Only b w (setBlock w b o) :=
 ⟨rfl, rfl, rfl, by simp [setBlock], fun i hi => heap_setBlock_other hb _ hi⟩
theorem MapW.store {w : World} {b : Nat} {ws : List (Nat × List Int)} (h : MapW w b ws) (hlt : ∀ y ∈ ws, y.1 < 4294967296) {x : Nat} (hx : x < 4294967296) {hh : Int} {p : Nat} {L : List Int} (hW : WinS L hh p) :
 ∃ w', (Instr.mapUpdate 63 (.map (some b)) (.int .u32 (x : Int)) (.agg #[.int .i64 hh, .int .u64 (p : Int)])).run Tryz.prog w = .ok () w' ∧ MapW w' b (putY ws x L) ∧ Only b w w' := by
 obtain ⟨es, clock, hb, hs, hn, he⟩ := h
 have hkey := keyU hx
 have sp := MapW.spot (x := x) hs hn he
 rcases keyed32.find w hkey es.toList (MapW.keys hs hlt he) with ⟨h1, h2⟩ | ⟨j, e0, h1, h2, h3⟩
 · have ha := sp.2 h2
   refine ⟨setBlock w b (.map (es.push ⟨.int .u32 (x : Int), .agg #[.int .i64 hh, .int .u64 (p : Int)], clock⟩) (clock + 1)), ?_, ⟨_, _, heap_setBlock_same hb _, ?_, names_put hn, ?_⟩, only_block hb _⟩
   · simp [Instr.mapUpdate, run_underlying Tryz.underlying63, MapKept.run_getObj_map hb, keyed32.check w false hkey, h1, MapKept.run_setObj_map _ hb, Result.andThen, setBlock]
   · rw [putY_none L ha]; simp [hs]
   · rw [putY_none L ha]
     intro i hi
     by_cases e : i = ws.length
     · subst e
       refine ⟨⟨.int .u32 (x : Int), .agg #[.int .i64 hh, .int .u64 (p : Int)], clock⟩, hh, p, ?_, ?_, rfl, ?_⟩
       · rw [← hs]; simp
       · simp [List.getD]
       · simpa [List.getD] using hW
     · have hi' : i < ws.length := by simp only [List.length_append, List.length_singleton] at hi; omega
       obtain ⟨e1, h', p', k1, k2, k3, k4⟩ := he i hi'
       have e2 : (ws ++ [(x, L)]).getD i (0, []) = ws.getD i (0, []) := by simp [List.getD, List.getElem?_append_left hi']
       rw [e2]
       exact ⟨e1, h', p', by rw [Array.getElem?_push, if_neg (by omega)]; exact k1, k2, k3, k4⟩
 · have hj : es[j]? = some e0 := by simpa using h2
   have ha := sp.1 j e0 hj h3
   obtain ⟨hjl, hj2, hj3⟩ := atW_some ha
   refine ⟨setBlock w b (.map (es.modify j (fun e' => { e' with key := .int .u32 (x : Int), val := .agg #[.int .i64 hh, .int .u64 (p : Int)] })) clock), ?_, ⟨_, _, heap_setBlock_same hb _, ?_, names_put hn, ?_⟩, only_block hb _⟩
   · simp [Instr.mapUpdate, run_underlying Tryz.underlying63, MapKept.run_getObj_map hb, keyed32.check w false hkey, h1, hj, h3, keyed32.stays w hkey, MapKept.run_setObj_map _ hb, Result.andThen, setBlock]
   · rw [putY_some L ha]; simp [hs]
   · rw [putY_some L ha]
     intro i hi
     have hi' : i < ws.length := by simpa using hi
     obtain ⟨e1, h', p', k1, k2, k3, k4⟩ := he i hi'
     by_cases e : j = i
     · subst e
       have e2 : (ws.set j ((ws.getD j (0, [])).1, L)).getD j (0, []) = ((ws.getD j (0, [])).1, L) := by simp [List.getD, hi']
       rw [e2]
       refine ⟨_, hh, p, by rw [Array.getElem?_modify, if_pos rfl, k1]; rfl, ?_, rfl, hW⟩
       rw [hj2]
     · have e2 : (ws.set j ((ws.getD j (0, [])).1, L)).getD i (0, []) = ws.getD i (0, []) := by simp [List.getD, e]
       rw [e2]
       exact ⟨e1, h', p', by rw [Array.getElem?_modify, if_neg e]; exact k1, k2, k3, k4⟩
end Go.Proofs.YtmkeioeodlidgaaGreatDoor
