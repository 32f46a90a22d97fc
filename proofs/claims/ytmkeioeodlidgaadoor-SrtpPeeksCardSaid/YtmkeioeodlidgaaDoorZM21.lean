/- Several texts in one: Plain words: headers of rows that begin alike; what is sealed is opened, once, and not if a byte is turned. Contracts of package keys: a way's keys, piece by piece. Contracts of the document's answer of layer 7: what is derived of a master. Contracts of the document's answer of layer 7: the keys of a way. The document's way of layer 15 (tenailleref15.Way): how high a source came; a new way; a window's mark, with what it leaves alone. No statement is proved here. -/
import Derived.Test.YtmkeioeodlidgaaDoorZM16
import Derived.Test.YtmkeioeodlidgaaDoorZM20
import Derived.Test.YtmkeioeodlidgaaDoorZM17
import Derived.Test.YtmkeioeodlidgaaDoorZM15
namespace Go.Proofs.YtmkeioeodlidgaaDoor
open Go.RowKit
set_option linter.unusedVariables false

theorem peek_len {b : List UInt8} (h : whyPeek b = 0) : 22 ≤ b.length ∧ b.length ≤ 1200 ∧ at1 b ≤ b.length - 10 := by
  unfold whyPeek at h
  by_cases c1 : 1200 < b.length
  · rw [if_pos c1] at h; omega
  rw [if_neg c1] at h
  by_cases c2 : b.length < 22
  · rw [if_pos c2] at h; omega
  rw [if_neg c2] at h
  by_cases c3 : bt b 0 / 64 ≠ 2
  · rw [if_pos c3] at h; omega
  rw [if_neg c3] at h
  by_cases c4 : b.length - 10 < at1 b
  · rw [if_pos c4] at h; omega
  omega
theorem bt_take {b : List UInt8} {i m : Nat} (h : i < m) : bt (b.take m) i = bt b i := by
  unfold bt
  simp [List.getD, h]
theorem drop_take2 {b : List UInt8} {o k m : Nat} (h : o + k ≤ m) : ((b.take m).drop o).take k = (b.drop o).take k := by
  rw [List.drop_take, List.take_take, Nat.min_eq_left (by omega)]
theorem at0_take {b : List UInt8} {m : Nat} (h : 1 ≤ m) : at0 (b.take m) = at0 b := by
  unfold at0 othN
  rw [bt_take (by omega)]
theorem exBR_take {b : List UInt8} {m : Nat} (h : 1 ≤ m) : exBR (b.take m) = exBR b := by
  unfold exBR
  rw [bt_take (by omega)]
theorem at1_take {b : List UInt8} {m : Nat} (h : 1 ≤ m) : (at1 b ≤ m → at1 (b.take m) = at1 b) ∧ (at1 (b.take m) ≤ m → at1 b ≤ m) := by
  have hw : at0 b + 4 ≤ m → wordsN (b.take m) = wordsN b := fun h2 => by
    unfold wordsN
    rw [at0_take h, drop_take2 (by omega)]
  unfold at1
  rw [exBR_take h, at0_take h]
  cases exBR b
  · exact ⟨fun _ => rfl, fun k => k⟩
  · simp only [if_true]
    refine ⟨fun k => by rw [hw (by omega)], fun k => ?_⟩
    rw [hw (by omega)] at k
    exact k
theorem at1_alike {X B : List UInt8} {m : Nat} (h1 : 1 ≤ m) (h : X.take m = B.take m) (hm : at1 B ≤ m) : at1 X = at1 B := by
  have k1 := (at1_take (b := B) h1).1 hm
  have k2 := (at1_take (b := X) h1).2 (by rw [h, k1]; exact hm)
  rw [← (at1_take (b := X) h1).1 k2, h, k1]
theorem soN_alike {X B : List UInt8} {m : Nat} (h1 : 12 ≤ m) (h : X.take m = B.take m) : soN X = soN B := by
  unfold soN
  rw [← drop_take2 (b := X) (m := m) (by omega), h, drop_take2 (by omega)]
theorem sqN_alike {X B : List UInt8} {m : Nat} (h1 : 12 ≤ m) (h : X.take m = B.take m) : sqN X = sqN B := by
  unfold sqN
  rw [← drop_take2 (b := X) (m := m) (by omega), h, drop_take2 (by omega)]
theorem bt_alike {X B : List UInt8} {m i : Nat} (h1 : i < m) (h : X.take m = B.take m) : bt X i = bt B i := by
  rw [← bt_take (b := X) h1, h, bt_take h1]
theorem turnW_twice (s : Wy) (B : List UInt8) (h so i : Nat) (hh : h ≤ B.length) : turnW s (turnW s B h so i) h so i = B := by
  have e : (B.take h).length = h := by rw [List.length_take]; omega
  unfold turnW
  rw [List.take_left' e, List.drop_left' e, cph_twice, List.take_append_drop]
theorem turnW_take (s : Wy) (B : List UInt8) (h so i : Nat) (hh : h ≤ B.length) : (turnW s B h so i).take h = B.take h := by
  have e : (B.take h).length = h := by rw [List.length_take]; omega
  unfold turnW
  rw [List.take_left' e]
/-- Two ways with the same keys turn, and tag, alike. -/
def Wy.keyed (s y : Wy) : Prop := y.key = s.key ∧ y.auth = s.auth ∧ y.salt = s.salt
theorem turnW_keyed {s y : Wy} (h : s.keyed y) (B : List UInt8) (a so i : Nat) : turnW y B a so i = turnW s B a so i := by unfold turnW; rw [h.1, h.2.2]
theorem tagW_keyed {s y : Wy} (h : s.keyed y) (B : List UInt8) (i : Nat) : tagW y B i = tagW s B i := by unfold tagW; rw [h.2.1]
/-- What is sealed of a packet. -/
structure Sealed (s : Wy) (p : Pkt) (i : Nat) (X : List UInt8) : Prop where
  len : X.length = (wrB p).length + 10
  small : (wrB p).length ≤ 1190
  big : 12 ≤ (wrB p).length
  head : X.take (at1 (wrB p)) = (wrB p).take (at1 (wrB p))
  hd12 : 12 ≤ at1 (wrB p)
  hdle : at1 (wrB p) ≤ (wrB p).length
  body : X.take (X.length - 10) = turnW s (wrB p) (at1 (wrB p)) p.so i
  tag : X.drop (X.length - 10) = tagW s (turnW s (wrB p) (at1 (wrB p)) p.so i) i
theorem sealed_ok (s : Wy) (p : Pkt) (i : Int) (hm : mayW p i) (hf : fits p) : Sealed s p i.toNat (sealB s (wrB p) (at1 (wrB p)) p.so i.toNat) := by
  have hp := why_parts (wrB p) (read_wr p hm.1 hf).1
  have hd : 12 ≤ at1 (wrB p) := by
    unfold at1 at0
    split <;> omega
  have hl := turnW_len s (wrB p) (at1 (wrB p)) p.so i.toNat _ rfl hp.2.2.2.1
  have hX : (sealB s (wrB p) (at1 (wrB p)) p.so i.toNat).length = (wrB p).length + 10 := by
    unfold sealB
    rw [List.length_append, hl, tagW_len]
  have e10 : (wrB p).length + 10 - 10 = (wrB p).length := by omega
  refine ⟨hX, hm.2.2.2.2, hp.1, ?_, hd, hp.2.2.2.1, ?_, ?_⟩
  · unfold sealB
    rw [List.take_append_of_le_length (by rw [hl]; exact hp.2.2.2.1), turnW_take _ _ _ _ _ hp.2.2.2.1]
  · rw [hX, e10]
    unfold sealB
    rw [List.take_left' hl]
  · rw [hX, e10]
    unfold sealB
    rw [List.drop_left' hl]
theorem sealed_head {s : Wy} {p : Pkt} {i : Nat} {X : List UInt8} (h : Sealed s p i X) (hm : mayB p) (hf : fits p) : whyPeek X = 0 ∧ at1 X = at1 (wrB p) ∧ soN X = p.so ∧ sqN X = p.sq := by
  have hr := read_wr p hm hf
  have hp := why_parts (wrB p) hr.1
  have ha := at1_alike (by have := h.hd12; omega) h.head (Nat.le_refl _)
  have hb := bt_alike (i := 0) (by have := h.hd12; omega) h.head
  have l1 := h.len
  have l2 := h.small
  have l3 := h.big
  have l4 := h.hdle
  refine ⟨?_, ha, ?_, ?_⟩
  · unfold whyPeek
    rw [if_neg (by omega), if_neg (by omega), if_neg (by rw [hb]; omega), if_neg (by omega)]
  · rw [soN_alike h.hd12 h.head]
    exact congrArg Pkt.so hr.2
  · rw [sqN_alike h.hd12 h.head]
    exact congrArg Pkt.sq hr.2
/-- What is sealed is opened by a way with the same keys, where its index is likely, fresh, and there is room. -/
theorem sealed_open {s y : Wy} {p : Pkt} {i : Nat} {X : List UInt8} (h : Sealed s p i X) (hm : mayB p) (hf : fits p) (hk : s.keyed y) (hi : i < 281474976710656) (hu : ¬ y.limit ≤ y.used) (hr : ¬ (lookW y.ws p.so = none ∧ 8 ≤ y.ws.length)) (hx : likely (highW y.ws p.so) (p.sq : Int) = (i : Int))
    (hfr : ¬ ∃ L, lookW y.ws p.so = some L ∧ frL L (i : Int) = false) : whyOpen y X = 0 ∧ codeO y X = 0 ∧ idxO y X = (i : Int) ∧ pktO y X = p ∧ yO y X = { y with used := y.used + 1, ws := markW y.ws p.so (i : Int) } := by
  obtain ⟨h1, h2, h3, h4⟩ := sealed_head h hm hf
  have hidx : idxW y X = (i : Int) := by unfold idxW; rw [h3, h4]; exact hx
  have hw : whyOpen y X = 0 := by
    refine whyOpen_0 h1 hu (by rw [h3]; exact hr) (by rw [hidx]; omega) (by rw [h3, hidx]; exact hfr) ?_
    rw [hidx, Int.toNat_natCast, h.body, h.tag, tagW_keyed hk]
  have hp : plainW y X = wrB p := by
    unfold plainW
    rw [hidx, Int.toNat_natCast, h.body, h2, h3, turnW_keyed hk, turnW_twice _ _ _ _ _ h.hdle]
  have hrd := read_wr p hm hf
  have hc : codeO y X = 0 := by
    unfold codeO
    rw [if_neg (fun k => k hw), hp, if_neg (fun k => k hrd.1)]
  refine ⟨hw, hc, ?_, ?_, ?_⟩
  · unfold idxO; rw [if_pos hc, hidx]
  · unfold pktO; rw [if_pos hc, hp, hrd.2]
  · unfold yO; rw [if_pos hw, h3, hidx]
theorem likely_none (q : Nat) : likely (-1) (q : Int) = (q : Int) := likely_neg _ _ (by omega)
theorem highW_one (n : Nat) (i : Nat) : highW [(n, [(i : Int)])] n = (i : Int) := by
  unfold highW lookW
  rw [if_pos rfl]
  simp [hiL]
  omega
theorem likely_self (q : Nat) (h : q < 65536) : likely (q : Int) (q : Int) = (q : Int) := by
  have e : aheadZ (q : Int) (q : Int) = 0 := by unfold aheadZ; omega
  rw [likely_in _ _ (by omega) (by rw [e]; omega), e]
  omega
/-- A new way opens what is sealed of a packet by its own number; again it is old. -/
theorem sealed_new {s y : Wy} {p : Pkt} {X : List UInt8} (h : Sealed s p p.sq X) (hm : mayB p) (hf : fits p) (hk : s.keyed y) (hu : ¬ y.limit ≤ y.used) (hw : y.ws = []) :
    codeO y X = 0 ∧ idxO y X = (p.sq : Int) ∧ pktO y X = p ∧ yO y X = { y with used := y.used + 1, ws := [(p.so, [(p.sq : Int)])] } := by
  obtain ⟨_, h2, h3, h4, h5⟩ := sealed_open h hm hf hk (by have := hf.1; omega) hu (by rw [hw]; simp) (by rw [hw]; exact likely_none p.sq) (by rw [hw]; simp [lookW])
  refine ⟨h2, h3, h4, ?_⟩
  rw [h5, hw]
  have : mkL [] (p.sq : Int) = [(p.sq : Int)] := by rw [mkL_of (fr_above (by omega) (by rw [hiL_nil]; omega))]; rfl
  unfold markW winW
  simp [lookW, putY, this]
theorem sealed_old {s y : Wy} {p : Pkt} {X : List UInt8} (h : Sealed s p p.sq X) (hm : mayB p) (hf : fits p) (hu : ¬ y.limit ≤ y.used) (hw : y.ws = [(p.so, [(p.sq : Int)])]) : codeO y X = 5 := by
  obtain ⟨h1, h2, h3, h4⟩ := sealed_head h hm hf
  have hidx : idxW y X = (p.sq : Int) := by unfold idxW; rw [h3, h4, hw, highW_one]; exact likely_self _ hf.1
  have hw5 : whyOpen y X = 5 := by
    refine whyOpen_5 h1 hu (by rw [h3, hw]; simp [lookW]) (by rw [hidx]; have := hf.1; omega) ⟨[(p.sq : Int)], by rw [h3, hw]; simp [lookW], ?_⟩
    rw [hidx]
    simp [frL]
  unfold codeO
  rw [hw5, if_pos (by decide)]
/-- A new way opens nothing whose tag isn't that of its bytes in the first round. -/
theorem new_auth {y : Wy} {X : List UInt8} (hw : y.ws = []) (ht : tagW y (X.take (X.length - 10)) 0 ≠ X.drop (X.length - 10)) : codeO y X ≠ 0 ∧ yO y X = y := by
  have h : whyOpen y X ≠ 0 := by
    intro hz
    obtain ⟨_, _, _, _, _, h6⟩ := open_zero hz
    have hq := sqN_lt X
    have hidx : idxW y X = (sqN X : Int) := by unfold idxW; rw [hw]; exact likely_none _
    rw [hidx, Int.toNat_natCast] at h6
    refine ht (Eq.trans ?_ h6)
    unfold tagW
    rw [show sqN X / 65536 = 0 by omega, Nat.zero_div]
  refine ⟨?_, ?_⟩
  · unfold codeO; rw [if_pos h]; exact h
  · unfold yO; rw [if_neg h]
end Go.Proofs.YtmkeioeodlidgaaDoor

namespace Go.Proofs.YtmkeioeodlidgaaDoor
open Go.RowKit
set_option linter.unusedVariables false

/-- A way's keys under way: what the closure has captured, and the keys so far. -/
structure KEnv (q r g : Nat) (M s : List UInt8) (fi : Int) (wr : World) : Prop where
  hq : Blk wr q 37 M
  hr : BlkV wr r 5 [.int .u8 fi]
  hg : Blk wr g 58 s
  nq : q ≠ g
  nr : r ≠ g

set_option maxRecDepth 100000 in
set_option maxHeartbeats 1000000 in
theorem fill_any (q r g o n c L : Nat) (key salt s : List UInt8) (fi li : Int) (w : World) (hk : key.length = 16) (hs : salt.length = 14) (he : IntKind.u8.wrap (fi + li) = (L : Int)) (hL : L < 256) (h : KEnv q r g (mst key salt) s fi w) (h1 : 1 ≤ n) (hn : n ≤ 50) (hsl : o + n ≤ s.length) :
    Calls Tryd.prog 45 #[.slice (some ⟨g, o, none⟩) n c, .int .u8 li, .pointer (some ⟨q, 0, none⟩), .pointer (some ⟨r, 0, none⟩)] w fun e w' => e = .returned (.tuple #[]) ∧ KEnv q r g (mst key salt) (splice s o (drv key salt L n)) fi w' ∧ w.grownBy w' (some g) := by
  have hml := mst_len key salt hk hs
  have hdr := fun wx => derive_any key salt L (n : Int) n wx hk hs hL (by omega) (by omega)
  have hdl := drv_len key salt L n
  obtain ⟨D, hD⟩ : ∃ D, D = drv key salt L n := ⟨_, rfl⟩
  simp only [← hD] at hdr hdl ⊢
  have hcp : splice (cells s) o (cells (D.take n)) = cells (splice s o D) := by rw [List.take_of_length_le (by omega), cells_splice]
  obtain ⟨M, hM⟩ : ∃ M, M = mst key salt := ⟨_, rfl⟩
  simp only [← hM] at hdr h hml ⊢
  have hq := h.hq
  have hr := h.hr
  have hg := h.hg
  have nq := h.nq
  have nr := h.nr
  have hrc : w.cell? ⟨r, 0, none⟩ = some (.int .u8 fi) := (hr.cell 0).trans rfl
  have hML : (cells M).length = 30 := by rw [length_cells, hml]
  have hln : o + n ≤ (cells s).length := by rw [length_cells]; exact hsl
  have HML := Lib.hid hML
  have HDR := Lib.hid hdr
  have HCP := Lib.hid hcp
  have HLN := Lib.hid hln
  have hmin : n = min n n := by omega
  have HMIN := Lib.hid hmin
  clear hml hdr hdl hD hcp hM h hsl hML hln hk hs hmin
  go_enter Tryd.func45, Tryd.ntmps45
  go_wp2_with (first
    | (with_reducible refine wpList_ld rfl 37 (.tmp 2) rfl q 0 rfl (cells M) (hq.v.range 0 _ (by simp)) (row30 HML.out) ?_)
    | (go_at_call 46; ((with_reducible refine (HDR.out _).mono ?_); rintro e w2 ⟨A2, c2, rfl, hr2, hb2⟩; have q2 := hq.below hb2 hq.lt; have r2 := hr.below hb2 hr.lt; have g2 := hg.below hb2 hg.lt; have gr2 := grown_of_below hb2 (some g)))
    | ((with_reducible refine wpList_cp rfl (.tmp 6) (.tmp 13) rfl Tryd.underlying22 u8_inf g o n c 58 (cells s) rfl g2.v A2 n c2 D rfl hr2 HLN.out n HMIN.out (by omega) ?_); intro w3 hB3 ho3; rw [HCP.out] at hB3))
  go_end0
  exact ⟨rfl, ⟨Blk.only q2 ho3 nq, r2.only ho3 nr, hB3, nq, nr⟩, grown_only gr2 ho3 (.inl rfl)⟩

theorem way_boxes (w : World) (M : List UInt8) (fi : Int) : Below w.heap.size w ((((w.alloc (Obj.cells (cells M).toArray 37)).alloc (Obj.cells #[.int .u8 fi] 5)).alloc (Obj.cells (cells Z50).toArray 58)).alloc (Obj.cells (cells Z50).toArray 58)) ∧
    KEnv w.heap.size (w.heap.size + 1) (w.heap.size + 1 + 1 + 1) M Z50 fi ((((w.alloc (Obj.cells (cells M).toArray 37)).alloc (Obj.cells #[.int .u8 fi] 5)).alloc (Obj.cells (cells Z50).toArray 58)).alloc (Obj.cells (cells Z50).toArray 58)) ∧
    Blk ((((w.alloc (Obj.cells (cells M).toArray 37)).alloc (Obj.cells #[.int .u8 fi] 5)).alloc (Obj.cells (cells Z50).toArray 58)).alloc (Obj.cells (cells Z50).toArray 58)) (w.heap.size + 1 + 1) 58 Z50 :=
  ⟨((((Below.refl _ _).alloc (Nat.le_refl _) _).alloc (by simp) _).alloc (by simp; omega) _).alloc (by simp; omega) _,
   ⟨(((Blk.new _ _ _).alloc _).alloc _).alloc _, ((BlkV.new_at _ _ _ [.int .u8 fi] _ (by simp) rfl).alloc _).alloc _, Blk.new_at _ _ _ _ _ (by simp) rfl, by omega, by omega⟩,
   (Blk.new_at _ _ _ _ _ (by simp) rfl).alloc _⟩

set_option maxRecDepth 100000 in
set_option maxHeartbeats 1000000 in
theorem way_any (key salt : List UInt8) (f : Nat) (fi : Int) (w : World) (hk : key.length = 16) (hs : salt.length = 14) (hf : f < 250) (hfi : fi = (f : Int)) :
    Calls Tryd.prog 27 #[.agg (cells (mst key salt)).toArray, .int .u8 fi] w fun e w' => e = .returned (.agg (cells (kys key salt f)).toArray) ∧ Below w.heap.size w w' := by
  have hmf : ∀ (fn : Fn) (first cap : Array Value) (w : World), (Instr.makeFunc fn first cap).run Tryd.prog w = .ok (.func fn first cap) w := fun _ _ _ _ => rfl
  have hz := zero50
  obtain ⟨hb0, hE, hR⟩ := way_boxes w (mst key salt) fi
  have w0 : IntKind.u8.wrap (fi + 0) = (f : Int) := by rw [IntKind.wrap_u8]; omega
  have w1 : IntKind.u8.wrap (fi + 1) = ((f + 1 : Nat) : Int) := by rw [IntKind.wrap_u8]; omega
  have w2 : IntKind.u8.wrap (fi + 2) = ((f + 2 : Nat) : Int) := by rw [IntKind.wrap_u8]; omega
  have l0 := drv_len key salt f 16
  have l1 := drv_len key salt (f + 1) 20
  have l2 := drv_len key salt (f + 2) 14
  have hkl := kys_len key salt f
  obtain ⟨K, hK⟩ : ∃ K, K = kys key salt f := ⟨_, rfl⟩
  rw [← hK] at hkl ⊢
  obtain ⟨S1, hS1⟩ : ∃ S1, S1 = splice Z50 0 (drv key salt f 16) := ⟨_, rfl⟩
  obtain ⟨S2, hS2⟩ : ∃ S2, S2 = splice S1 16 (drv key salt (f + 1) 20) := ⟨_, rfl⟩
  have n1 : S1.length = 50 := by rw [hS1, splice_len _ _ _ (by rw [l0, Z50_len]; omega), Z50_len]
  have n2 : S2.length = 50 := by rw [hS2, splice_len _ _ _ (by rw [l1, n1]; omega), n1]
  have hS3 : splice S2 36 (drv key salt (f + 2) 14) = K := by rw [hS2, hS1, hK, trio3 _ _ _ l0 l1 l2]; rfl
  have f0 := fun q r g c wx (h : KEnv q r g (mst key salt) Z50 fi wx) => fill_any q r g 0 16 c f key salt Z50 fi 0 wx hk hs w0 (by omega) h (by omega) (by omega) (by rw [Z50_len]; omega)
  have f1 := fun q r g c wx (h : KEnv q r g (mst key salt) S1 fi wx) => fill_any q r g 16 20 c (f + 1) key salt S1 fi 1 wx hk hs w1 (by omega) h (by omega) (by omega) (by omega)
  have f2 := fun q r g c wx (h : KEnv q r g (mst key salt) S2 fi wx) => fill_any q r g 36 14 c (f + 2) key salt S2 fi 2 wx hk hs w2 (by omega) h (by omega) (by omega) (by omega)
  simp only [← hS1] at f0
  simp only [← hS2] at f1
  simp only [hS3] at f2
  obtain ⟨M, hM⟩ : ∃ M, M = mst key salt := ⟨_, rfl⟩
  simp only [← hM] at f0 f1 f2 hE ⊢
  rw [← hM] at hb0 hR
  have hKL : (cells K).length = 50 := by rw [length_cells, hkl]
  have hZL : (cells Z50).length = 50 := by rw [length_cells, Z50_len]
  have HKL := Lib.hid hKL
  have HZL := Lib.hid hZL
  have F0 := Lib.hid f0
  have F1 := Lib.hid f1
  have F2 := Lib.hid f2
  clear w0 w1 w2 l0 l1 l2 hkl hK hS1 hS2 n1 n2 hS3 f0 f1 f2 hM hKL hZL hk hs hf hfi
  go_enter Tryd.func27, Tryd.ntmps27
  go_wp2_with (first
    | (go_at_call 45; ((with_reducible refine (F0.out _ _ _ _ _ hE).mono ?_); rintro e x1 ⟨rfl, hE1, hg1⟩))
    | (go_at_call 45; ((with_reducible refine (F1.out _ _ _ _ _ hE1).mono ?_); rintro e x2 ⟨rfl, hE2, hg2⟩))
    | (go_at_call 45; ((with_reducible refine (F2.out _ _ _ _ _ hE2).mono ?_); rintro e x3 ⟨rfl, hE3, hg3⟩; have hK3 := hE3.hg; have hR3 := ((hR.grown hg1 (by intro e; injection e with e; omega)).grown hg2 (by intro e; injection e with e; omega)).grown hg3 (by intro e; injection e with e; omega)))
    | (with_reducible refine wpList_ld rfl 58 (.tmp 6) rfl (w.heap.size + 1 + 1 + 1) 0 rfl (cells K) (hK3.v.range 0 _ (by simp)) (row50 HKL.out) ?_)
    | ((with_reducible refine wpList_st rfl 58 (.tmp 4) (.tmp 20) rfl (w.heap.size + 1 + 1) 0 (cells K) rfl rfl 58 _ hR3.v (by rw [HKL.out, HZL.out]; omega) (row50 HKL.out) (cells_one _) ?_); intro x4 hB4 ho4; rw [splice_all _ _ (by rw [HKL.out, HZL.out])] at hB4))
  have hg := (hg1.trans hg2).trans hg3
  have hb := hb0.trans (below_of_grown hg hb0.size (fun k hk => by injection hk with hk; omega))
  exact ret_row (by rfl) (by rfl) hB4 (row50 HKL.out) (by rfl) ⟨rfl, hb.trans (ho4.below (by omega))⟩

set_option maxRecDepth 100000 in
set_option maxHeartbeats 1000000 in
theorem rtp_any (key salt : List UInt8) (w : World) (hk : key.length = 16) (hs : salt.length = 14) :
    Calls Tryd.prog 16 #[.agg (cells (mst key salt)).toArray] w fun e w' => e = .returned (.agg (cells (kys key salt 0)).toArray) ∧ Below w.heap.size w w' := by
  have hz := zero50
  have hb0 : Below w.heap.size w ((w.alloc (Obj.cells (cells (mst key salt)).toArray 37)).alloc (Obj.cells (cells Z50).toArray 58)) := ((Below.refl _ _).alloc (Nat.le_refl _) _).alloc (by simp) _
  have h0 : Blk ((w.alloc (Obj.cells (cells (mst key salt)).toArray 37)).alloc (Obj.cells (cells Z50).toArray 58)) w.heap.size 37 (mst key salt) := (Blk.new _ _ _).alloc _
  have h1 : Blk ((w.alloc (Obj.cells (cells (mst key salt)).toArray 37)).alloc (Obj.cells (cells Z50).toArray 58)) (w.heap.size + 1) 58 Z50 := Blk.new_at _ _ _ _ _ (by simp) rfl
  have hML : (cells (mst key salt)).length = 30 := by rw [length_cells, mst_len _ _ hk hs]
  have hKL : (cells (kys key salt 0)).length = 50 := by rw [length_cells, kys_len]
  have hZL : (cells Z50).length = 50 := by rw [length_cells, Z50_len]
  have hwy := fun wx => way_any key salt 0 0 wx hk hs (by omega) rfl
  obtain ⟨M, hM⟩ : ∃ M, M = mst key salt := ⟨_, rfl⟩
  obtain ⟨K, hK⟩ : ∃ K, K = kys key salt 0 := ⟨_, rfl⟩
  simp only [← hM, ← hK] at hwy ⊢
  rw [← hM] at hb0 h0 h1 hML
  rw [← hK] at hKL
  have HML := Lib.hid hML
  have HKL := Lib.hid hKL
  have HZL := Lib.hid hZL
  have HW := Lib.hid hwy
  clear hML hKL hZL hwy hM hK hk hs
  go_enter Tryd.func16, Tryd.ntmps16
  go_wp2_with (first
    | (with_reducible refine wpList_ld rfl 37 (.tmp 1) rfl w.heap.size 0 rfl (cells M) (h0.v.range 0 _ (by simp)) (row30 HML.out) ?_)
    | (go_at_call 27; ((with_reducible refine (HW.out _).mono ?_); rintro e w2 ⟨rfl, hb2⟩; have k1 := h1.below hb2 h1.lt))
    | ((with_reducible refine wpList_st rfl 58 (.tmp 2) (.tmp 4) rfl (w.heap.size + 1) 0 (cells K) rfl rfl 58 _ k1.v (by rw [HKL.out, HZL.out]; omega) (row50 HKL.out) (cells_one _) ?_); intro w3 hB3 ho3; rw [splice_all _ _ (by rw [HKL.out, HZL.out])] at hB3))
  exact ret_row (by rfl) (by rfl) hB3 (row50 HKL.out) (by rfl) ⟨rfl, (hb0.trans (hb2.mono hb0.size)).trans (ho3.below (by omega))⟩

end Go.Proofs.YtmkeioeodlidgaaDoor

namespace Go.Proofs.YtmkeioeodlidgaaDoor
open Go.RowKit
set_option linter.unusedVariables false

theorem mst_get (key salt : List UInt8) (i : Nat) (hk : key.length = 16) : (mst key salt).getD (16 + i) 0 = salt.getD i 0 := by
  rw [mst, getD_app_right _ _ _ (by omega), hk, show 16 + i - 16 = i by omega]
/-- What is there all along: the master, the counter. -/
structure DEnv (w : World) (M C : List UInt8) (wr : World) : Prop where
  m : Blk wr w.heap.size 37 M
  c : Blk wr (w.heap.size + 1) 34 C
  b : Below w.heap.size w wr
theorem DEnv.below {w : World} {M C : List UInt8} {wr w' : World} (h : DEnv w M C wr) (hb : Below wr.heap.size wr w') : DEnv w M C w' := ⟨h.m.below hb h.m.lt, h.c.below hb h.c.lt, h.b.trans (hb.mono h.b.size)⟩

end Go.Proofs.YtmkeioeodlidgaaDoor

namespace Go.Proofs.YtmkeioeodlidgaaDoor
open Go.RowKit
set_option linter.unusedVariables false

/-- What is there all along ahead of the loop: the master, the keys under way, those that are handed back. -/
structure XEnv (w : World) (M L : List UInt8) (wr : World) : Prop where
  m : Blk wr w.heap.size 37 M
  r : Blk wr (w.heap.size + 1) 58 Z50
  k : Blk wr (w.heap.size + 1 + 1) 58 L
  b : Below w.heap.size w wr
theorem XEnv.below {w : World} {M L : List UInt8} {wr w' : World} (h : XEnv w M L wr) (hb : Below wr.heap.size wr w') : XEnv w M L w' := ⟨h.m.below hb h.m.lt, h.r.below hb h.r.lt, h.k.below hb h.k.lt, h.b.trans (hb.mono h.b.size)⟩
theorem xenv_start (w : World) (M : List UInt8) : XEnv w M Z50 (((w.alloc (Obj.cells (cells M).toArray 37)).alloc (Obj.cells (cells Z50).toArray 58)).alloc (Obj.cells (cells Z50).toArray 58)) :=
  ⟨((Blk.new _ _ _).alloc _).alloc _, (Blk.new_at _ _ _ _ _ (by simp) rfl).alloc _, Blk.new_at _ _ _ _ _ (by simp) rfl, (((Below.refl _ _).alloc (Nat.le_refl _) _).alloc (by simp) _).alloc (by simp; omega) _⟩
/-- .. and in the loop: the pieces that are laid. -/
structure TEnv (w : World) (G gA gB gC : Nat) (a b c L : List UInt8) (wr : World) : Prop where
  r : Blk wr (w.heap.size + 1) 58 Z50
  k : Blk wr G 58 L
  A : ∀ j, j < 16 → wr.cell? ⟨gA, j, none⟩ = some (.int .u8 ((a.getD j 0).toNat : Int))
  B : ∀ j, j < 20 → wr.cell? ⟨gB, j, none⟩ = some (.int .u8 ((b.getD j 0).toNat : Int))
  C : ∀ j, j < 14 → wr.cell? ⟨gC, j, none⟩ = some (.int .u8 ((c.getD j 0).toNat : Int))
  b : Below w.heap.size w wr
  nG : w.heap.size + 1 < G
  nA : G < gA
  nB : G < gB
  nC : G < gC
theorem TEnv.put {w : World} {G gA gB gC : Nat} {a b c L : List UInt8} {wr : World} (h : TEnv w G gA gB gC a b c L wr) (j : Nat) (v : UInt8) : TEnv w G gA gB gC a b c (L.set j v) (wr.setCell ⟨G, j, none⟩ (.int .u8 (v.toNat : Int))) := by
  have ho := Only.set wr G j (.int .u8 (v.toNat : Int))
  have h1 := h.nG; have h2 := h.nA; have h3 := h.nB; have h4 := h.nC
  exact ⟨Blk.only h.r ho (by omega), h.k.set_ j v, cells_only h.A ho (by omega), cells_only h.B ho (by omega), cells_only h.C ho (by omega), h.b.trans (ho.below (by omega)), h1, h2, h3, h4⟩

end Go.Proofs.YtmkeioeodlidgaaDoor

namespace Go.Proofs.YtmkeioeodlidgaaDoor
open Go.RowKit
set_option linter.unusedVariables false

section
variable {P : Program} {w : World} {ops : Array Oper} {rest : List Oper} {op : Oper} {a : Act} {Q : Exit → Act → World → Prop}
theorem wpList_built2y (hgd : op.guard = none) (t : TypeId) (i j : Nat) (x y : Operand) (ho : op.op = .build t #[(i, x), (j, y)]) (u u2 v : Value) (hx : a.eval x = u) (hy : a.eval y = u2) (hr : (Instr.build t #[(i, u), (j, u2)]).run P w = .ok v w)
    (hK : wpList P ops Q rest (a.put op.dst v) w) : wpList P ops Q (op :: rest) a w := by
  refine wpList_plain hgd fun K hK2 => ?_
  unfold Oper.wp execOp
  simp only [ho, List.map_toArray, List.map_cons, List.map_nil, hx, hy, Sem.run_bind, hr, Result.andThen_ok, Sem.run_pure]
  exact hK2 _ _ hK
end
theorem highW_at {ws : List (Nat × List Int)} {x i : Nat} (h : atW ws x = some i) : highW ws x = hiL (ws.getD i (0, [])).2 := by
  unfold highW
  rw [(atW_some h).2.2]
theorem highW_not {ws : List (Nat × List Int)} {x : Nat} (h : atW ws x = none) : highW ws x = -1 := by
  unfold highW
  rw [(atW_none h).1]
/-- A new way. -/
def newY (key salt : List UInt8) (limit : Int) : Wy := ⟨drv key salt 0 16, drv key salt 1 20, drv key salt 2 14, limit, 0, []⟩
theorem newY_ks (key salt : List UInt8) (limit : Int) : (newY key salt limit).ks = kys key salt 0 := rfl
theorem newY_good (key salt : List UInt8) (limit : Int) (h : -9223372036854775808 ≤ limit ∧ limit ≤ 9223372036854775807) : (newY key salt limit).good :=
  ⟨⟨drv_len _ _ _ _, drv_len _ _ _ _, drv_len _ _ _ _, h, Int.le_refl _, by simp [newY], fun x hx => nomatch hx⟩, by simp [newY], fun x hx => nomatch hx⟩
set_option maxRecDepth 100000 in
theorem list50 {K : List UInt8} (h : K.length = 50) : ∃ x0 x1 x2 x3 x4 x5 x6 x7 x8 x9 x10 x11 x12 x13 x14 x15 x16 x17 x18 x19 x20 x21 x22 x23 x24 x25 x26 x27 x28 x29 x30 x31 x32 x33 x34 x35 x36 x37 x38 x39 x40 x41 x42 x43 x44 x45 x46 x47 x48 x49, K = x0 :: x1 :: x2 :: x3 :: x4 :: x5 :: x6 :: x7 :: x8 :: x9 :: x10 :: x11 :: x12 :: x13 :: x14 :: x15 :: x16 :: x17 :: x18 :: x19 :: x20 :: x21 :: x22 :: x23 :: x24 :: x25 :: x26 :: x27 :: x28 :: x29 :: x30 :: x31 :: x32 :: x33 :: x34 :: x35 :: x36 :: x37 :: x38 :: x39 :: x40 :: x41 :: x42 :: x43 :: x44 :: x45 :: x46 :: x47 :: x48 :: x49 :: [] := by
  match K, h with
  | x0 :: x1 :: x2 :: x3 :: x4 :: x5 :: x6 :: x7 :: x8 :: x9 :: x10 :: x11 :: x12 :: x13 :: x14 :: x15 :: x16 :: x17 :: x18 :: x19 :: x20 :: x21 :: x22 :: x23 :: x24 :: x25 :: x26 :: x27 :: x28 :: x29 :: x30 :: x31 :: x32 :: x33 :: x34 :: x35 :: x36 :: x37 :: x38 :: x39 :: x40 :: x41 :: x42 :: x43 :: x44 :: x45 :: x46 :: x47 :: x48 :: x49 :: [], _ => exact ⟨x0, x1, x2, x3, x4, x5, x6, x7, x8, x9, x10, x11, x12, x13, x14, x15, x16, x17, x18, x19, x20, x21, x22, x23, x24, x25, x26, x27, x28, x29, x30, x31, x32, x33, x34, x35, x36, x37, x38, x39, x40, x41, x42, x43, x44, x45, x46, x47, x48, x49, rfl⟩
end Go.Proofs.YtmkeioeodlidgaaDoor
