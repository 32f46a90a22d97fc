/- Several texts in one: Contracts of package rtp: Read. What the document's answer for layer 10 (tenailleref10) says of two packets that are the same. What the document's answer for layer 10 (tenailleref10) reads: where bytes are no packet. What the document's answer for layer 10 (tenailleref10) reads: a packet. What the document's answer for layer 10 (tenailleref10) reads: a packet, way by way. What the document's answer for layer 10 (tenailleref10) reads: a packet, way by way. What the document's answer for layer 10 (tenailleref10) reads: a packet, way by way. What the document's answer for layer 10 (tenailleref10) reads: a packet, way by way. What the document's answer for layer 10 (tenailleref10) reads: a packet, way by way. No statement is proved here. -/
import Derived.Test.YtmkeioeodlidgaaDoorZM18
import Derived.Laws.ResultCell
import Derived.BigQuiet
import Derived.Test.YtmkeioeodlidgaaDoorZM5
import Derived.Test.YtmkeioeodlidgaaDoorZM0
import Derived.Deep.RegionLaw
namespace Go.Proofs.YtmkeioeodlidgaaDoor
open Go.RowKit
set_option linter.unusedVariables false

theorem read_resultsR (tmps : Array Value) (w : World) (g h : Nat) (cs : List Value) (y : Int) (hp : tmps.getD 2 undef = .pointer (some ⟨g, 0, none⟩)) (hq : tmps.getD 3 undef = .pointer (some ⟨h, 0, none⟩)) (hg : BlkV w g 40 cs) (hl : cs.length = 11) (hh : BlkV w h 26 [.int .i64 y]) :
    (results Tryd.f25 tmps).run Tryd.prog w = .ok (.tuple #[.agg cs.toArray, .int .i64 y]) w := by
  have hp' : tmps[2]?.getD undef = .pointer (some ⟨g, 0, none⟩) := by simpa using hp
  have hq' : tmps[3]?.getD undef = .pointer (some ⟨h, 0, none⟩) := by simpa using hq
  have hc : w.cell? ⟨h, 0, none⟩ = some (.int .i64 y) := (hh.cell 0).trans rfl
  obtain ⟨d, h1, h2, h3⟩ := row11 hl
  have hld := run_loadVar_row (P := Tryd.prog) w g 40 40 cs.toArray (0, 0) d hg h1 (by cases d <;> simp_all) (by simpa using h3)
  have hle : (loadVar 26 ⟨h, 0, none⟩).run Tryd.prog w = .ok (.int .i64 y) w := by simp [go_sem, hc]
  simp [results, Tryd.results25, hp', hq', asAddr, hld, hle]

/-- The door behind a body that gave up. -/
theorem read_caught (c : Int) (cs1 : List Value) (y : Int) (tmps : Array Value) (g h : Nat) (W : World) (R : Ending → World → Prop) (hp : tmps.getD 2 undef = .pointer (some ⟨g, 0, none⟩)) (hq : tmps.getD 3 undef = .pointer (some ⟨h, 0, none⟩))
    (hg : BlkV W g 40 cs1) (hl : cs1.length = 11) (hh : BlkV W h 26 [.int .i64 y]) (hne : g ≠ h)
    (hR : ∀ w', Below (min g h) W w' → R (.returned (.tuple #[.agg zeroC.toArray, .int .i64 c])) w') :
    bodyPostD Tryd.prog Tryd.f25 R (.panic (gone c)) { tmps := tmps, defers := [{ target := .fn (.func 42) #[.pointer (some ⟨g, 0, none⟩), .pointer (some ⟨h, 0, none⟩)], args := #[] }] } W := by
  refine leaves_cons (f := 42) (args := #[.pointer (some ⟨g, 0, none⟩), .pointer (some ⟨h, 0, none⟩)]) (by simp [gone]) (by simp [go_sem]) ?_
  refine (catch_panicking c g h cs1 y [] W hg hl hh hne).mono ?_
  rintro e u' w'' ⟨rfl, rfl, h1, h2, hb⟩
  exact ⟨_, read_resultsR tmps w'' g h zeroC c hp hq h1 rfl h2, hR _ hb⟩
/-- The door behind a body that has gone through. -/
theorem read_throughR (cs1 : List Value) (y : Int) (tmps : Array Value) (g h : Nat) (W : World) (R : Ending → World → Prop) (hp : tmps.getD 2 undef = .pointer (some ⟨g, 0, none⟩)) (hq : tmps.getD 3 undef = .pointer (some ⟨h, 0, none⟩))
    (hg : BlkV W g 40 cs1) (hl : cs1.length = 11) (hh : BlkV W h 26 [.int .i64 y])
    (hR : R (.returned (.tuple #[.agg cs1.toArray, .int .i64 y])) W) :
    bodyPostD Tryd.prog Tryd.f25 R .ret { tmps := tmps, defers := [{ target := .fn (.func 42) #[.pointer (some ⟨g, 0, none⟩), .pointer (some ⟨h, 0, none⟩)], args := #[] }] } W := by
  refine leaves_cons (f := 42) (args := #[.pointer (some ⟨g, 0, none⟩), .pointer (some ⟨h, 0, none⟩)]) (by simp) (by simp [go_sem]) ?_
  refine (catch_idleR g h W).mono ?_
  rintro e u' w'' ⟨rfl, rfl, rfl⟩
  exact ⟨_, read_resultsR tmps w'' g h cs1 y hp hq hg hl hh, hR⟩

theorem read_boxesR (w : World) : Below w.heap.size w ((w.alloc (.cells zeroC.toArray 40)).alloc (.cells #[.int .i64 0] 26)) ∧ BlkV ((w.alloc (.cells zeroC.toArray 40)).alloc (.cells #[.int .i64 0] 26)) w.heap.size 40 zeroC ∧ BlkV ((w.alloc (.cells zeroC.toArray 40)).alloc (.cells #[.int .i64 0] 26)) (w.heap.size + 1) 26 [.int .i64 0] :=
  ⟨((Below.refl _ _).alloc (Nat.le_refl _) _).alloc (by simp) _, (BlkV.new _ _ _).alloc _, BlkV.new_at _ _ _ _ _ (by simp) rfl⟩

set_option maxRecDepth 100000 in
theorem read_long (A : Option Addr) (n c : Nat) (w : World) (hs : n ≤ 9223372036854775807) (hm : 1200 < n) :
    Calls Tryd.prog 25 #[.slice A n c] w fun e w' => e = .returned (.tuple #[.agg zeroC.toArray, .int .i64 3]) ∧ Below w.heap.size w w' := by
  have hmf : ∀ (fn : Fn) (first cap : Array Value) (w : World), (Instr.makeFunc fn first cap).run Tryd.prog w = .ok (.func fn first cap) w := fun _ _ _ _ => rfl
  have hz := zero28
  go_enter_defers Tryd.func25, Tryd.ntmps25
  go_wp2_with (first
    | (go_at_call 43; ((with_reducible refine (refuse_yes _ _ _ ?_).mono ?_); (first | rfl | assumption | (simp; omega)); rintro e w' ⟨rfl, rfl⟩)))
  obtain ⟨b, h1, h2⟩ := read_boxesR w
  exact read_caught 3 zeroC 0 _ _ _ _ _ rfl rfl h1 rfl h2 (by omega) (fun w' hb => ⟨rfl, b.trans (hb.mono (by omega))⟩)

abbrev readW (w : World) (A : Option Addr) (n c : Nat) : World := ((w.alloc (.cells zeroC.toArray 40)).alloc (.cells #[.int .i64 0] 26)).alloc (.cells #[.slice A n c] 99)
theorem read_rdr (w : World) (A : Option Addr) (n c : Nat) (bs : List UInt8) (hr : RdS w A n c bs) : RdrR (readW w A n c) (w.heap.size + 1 + 1) bs ∧ Below w.heap.size w (readW w A n c) ∧ BlkV (readW w A n c) w.heap.size 40 zeroC ∧ BlkV (readW w A n c) (w.heap.size + 1) 26 [.int .i64 0] := by
  obtain ⟨b, h1, h2⟩ := read_boxesR w
  have b2 : Below w.heap.size w (readW w A n c) := b.alloc b.size _
  exact ⟨⟨A, n, c, BlkV.new_at _ _ _ _ _ (by simp) rfl, hr.below b2, hr.lo (by omega)⟩, b2, h1.alloc _, h2.alloc _⟩
theorem PkOwn.mono {w : World} {b b2 : Nat} {cs : List Value} {p : Pkt} (h : PkOwn w b cs p) (hb : b2 ≤ b) : PkOwn w b2 cs p := by
  obtain ⟨A, a, B, b', D, d, e, h1, h2, h3⟩ := h
  exact ⟨A, a, B, b', D, d, e, own_mono h1 hb, own_mono h2 hb, own_mono h3 hb⟩
theorem PkOwn.only {w w' : World} {g b : Nat} {cs : List Value} {p : Pkt} (h : PkOwn w b cs p) (ho : Only g w w') (hb : g < b) : PkOwn w' b cs p := by
  obtain ⟨A, a, B, b', D, d, e, h1, h2, h3⟩ := h
  exact ⟨A, a, B, b', D, d, e, own_only h1 ho hb, own_only h2 ho hb, own_only h3 ho hb⟩
theorem own_belowR {w w' : World} {base n : Nat} {e : TypeId} {v : Value} {xs : List Value} (h : w.ownsRow base e 1 v n xs) (hb : Below w.heap.size w w') : w'.ownsRow base e 1 v n xs :=
  h.kept (grown_of_below hb none) (by rcases hq : v.ownBlock with _ | q <;> simp)
theorem PkOwn.below {w w' : World} {b : Nat} {cs : List Value} {p : Pkt} (h : PkOwn w b cs p) (hb : Below w.heap.size w w') : PkOwn w' b cs p := by
  obtain ⟨A, a, B, b', D, d, e, h1, h2, h3⟩ := h
  exact ⟨A, a, B, b', D, d, e, own_belowR h1 hb, own_belowR h2 hb, own_belowR h3 hb⟩
theorem PkOwn.len {w : World} {b : Nat} {cs : List Value} {p : Pkt} (h : PkOwn w b cs p) : cs.length = 11 := by
  obtain ⟨A, a, B, b', D, d, e, _⟩ := h
  subst e; rfl
theorem PkOwn.one {w : World} {b : Nat} {cs : List Value} {p : Pkt} (h : PkOwn w b cs p) : ∀ v ∈ cs, v.oneCell' = true := by
  obtain ⟨A, a, B, b', D, d, e, _⟩ := h
  subst e
  exact rtpC_one _ _ _ _ _ _ _ _ _ _ _ _ _ _ _ _ _

set_option maxRecDepth 100000 in
theorem read_no (A : Option Addr) (n c : Nat) (bs : List UInt8) (w : World) (hr : RdS w A n c bs) (hm : ¬ 1200 < n) (hy : whyR bs ≠ 0) :
    Calls Tryd.prog 25 #[.slice A n c] w fun e w' => e = .returned (.tuple #[.agg zeroC.toArray, .int .i64 (whyR bs)]) ∧ Below w.heap.size w w' := by
  have hmf : ∀ (fn : Fn) (first cap : Array Value) (w : World), (Instr.makeFunc fn first cap).run Tryd.prog w = .ok (.func fn first cap) w := fun _ _ _ _ => rfl
  have hz := zero28
  obtain ⟨hrd, b3, h1, h2⟩ := read_rdr w A n c bs hr
  have HP := Lib.hid (packet_no _ bs _ hrd (by rw [hr.len]; exact hm) hy)
  clear hrd hr hy
  go_enter_defers Tryd.func25, Tryd.ntmps25
  go_wp2_with (first
    | (go_at_call 43; ((with_reducible refine (refuse_noR _ _ _ ?_).mono ?_); (first | rfl | assumption | (simp; omega)); rintro e w' ⟨rfl, rfl⟩))
    | (go_at_call 44; ((with_reducible refine (Hid.out HP).mono ?_); rintro e w4 ⟨rfl, hg4⟩)))
  exact read_caught _ zeroC 0 _ _ _ _ _ rfl rfl (h1.grown hg4 (by intro e; injection e with e; omega)) rfl (h2.grown hg4 (by intro e; injection e with e; omega)) (by omega)
    (fun w' hb => ⟨rfl, (b3.trans (below_of_grown hg4 b3.size (fun k hk => by injection hk with hk; omega))).trans (hb.mono (by omega))⟩)

set_option maxRecDepth 100000 in
theorem read_okR (A : Option Addr) (n c : Nat) (bs : List UInt8) (w : World) (hr : RdS w A n c bs) (hm : ¬ 1200 < n) (hy : whyR bs = 0) :
    Calls Tryd.prog 25 #[.slice A n c] w fun e w' => ∃ cs, e = .returned (.tuple #[.agg cs.toArray, .int .i64 0]) ∧ PkOwn w' w.heap.size cs (pktR bs) ∧ Below w.heap.size w w' := by
  have hmf : ∀ (fn : Fn) (first cap : Array Value) (w : World), (Instr.makeFunc fn first cap).run Tryd.prog w = .ok (.func fn first cap) w := fun _ _ _ _ => rfl
  have hz := zero28
  obtain ⟨hrd, b3, h1, h2⟩ := read_rdr w A n c bs hr
  have HP := Lib.hid (packet_ok _ bs _ hrd hy)
  have HB3 := Lib.hid b3
  have H1 := Lib.hid h1
  have H2 := Lib.hid h2
  clear hrd hr hy b3 h1 h2
  have hsz : (readW w A n c).heap.size = w.heap.size + 3 := by simp [readW]
  have HSZ := Lib.hid hsz
  clear hsz
  go_enter_defers Tryd.func25, Tryd.ntmps25
  go_wp2_with (first
    | (go_at_call 43; ((with_reducible refine (refuse_noR _ _ _ ?_).mono ?_); (first | rfl | assumption | (simp; omega)); rintro e w' ⟨rfl, rfl⟩))
    | (go_at_call 44; ((with_reducible refine (Hid.out HP).mono ?_); rintro e w4 ⟨cs, rfl, hpk, hg4⟩; have HPK := Lib.hid hpk; have hfit : Hid (0 + cs.length ≤ zeroC.length) := Lib.hid (by rw [hpk.len]; exact Nat.le_refl 11); have HG4 := Lib.hid hg4; have k1 := Lib.hid (H1.out.grown hg4 (by intro e; injection e with e; omega)); have k2 := Lib.hid (H2.out.grown hg4 (by intro e; injection e with e; omega)); clear hpk hg4))
    | ((with_reducible refine wpList_st rfl 40 (.tmp 2) (.tmp 12) rfl w.heap.size 0 cs rfl rfl 40 zeroC k1.out hfit.out (row11 HPK.out.len) HPK.out.one ?_); intro w5 hB5 ho5; rw [splice_all _ _ (by rw [HPK.out.len]; rfl)] at hB5; have k3 := k2.out.only ho5 (by omega); have hc5 : w5.cell? ⟨w.heap.size + 1, 0, none⟩ = some (.int .i64 0) := (k3.cell 0).trans rfl; have hf5 := k3.frozen 0))
  have hsz := HSZ.out
  have k6 := hB5.far (p := ⟨w.heap.size + 1, 0, none⟩) (show w.heap.size ≠ w.heap.size + 1 by omega) (.int .i64 0)
  have k7 := k3.set_ 0 (.int .i64 0)
  have ho6 := Only.set w5 (w.heap.size + 1) 0 (.int .i64 0)
  exact read_throughR cs 0 _ _ _ _ _ rfl rfl k6 HPK.out.len k7 ⟨cs, rfl, ((HPK.out.only ho5 (by omega)).only ho6 (by omega)).mono (by omega),
    ((HB3.out.trans (below_of_grown HG4.out HB3.out.size (fun k hk => by injection hk with hk; omega))).trans (ho5.below (Nat.le_refl _))).trans (ho6.below (by omega))⟩
end Go.Proofs.YtmkeioeodlidgaaDoor

namespace Go.Proofs.YtmkeioeodlidgaaDoor
open Go.RowKit
set_option linter.unusedVariables false

/-- A slice of sources reads as these numbers. -/
def RdU (w : World) (A : Option Addr) (n : Nat) (L : List Nat) : Prop :=
  L.length = n ∧ n ≤ 9223372036854775807 ∧ (0 < n → ∃ b off, A = some ⟨b, off, none⟩ ∧ b < w.heap.size ∧ ∀ j, j < n → w.cell? ⟨b, off + j, none⟩ = some (.int .u32 ((L.getD j 0 : Nat) : Int)))
theorem RdU.below {w w' : World} {A : Option Addr} {n : Nat} {L : List Nat} (h : RdU w A n L) (hb : Below w.heap.size w w') : RdU w' A n L := by
  refine ⟨h.1, h.2.1, fun hn => ?_⟩
  obtain ⟨b, off, hA, hlt, hc⟩ := h.2.2 hn
  exact ⟨b, off, hA, Nat.lt_of_lt_of_le hlt hb.size, fun j hj => (hb.cell (p := ⟨b, off + j, none⟩) hlt).trans (hc j hj)⟩
theorem RdU.of_own {w : World} {base : Nat} {e : TypeId} {A : Option Addr} {n c : Nat} {L : List Nat} (h : w.ownsRow base e 1 (.slice A n c) n (ucells L)) : RdU w A n L := by
  have hl : L.length = n := by simpa [ucells_len] using h.1
  have hat := h
  rcases h.2 with ⟨hv, hn⟩ | ⟨g, cap, cur, hv, hb, hg, hnc, hcm, hcs, htake⟩
  · injection hv with h1 h2 h3
    subst h1
    exact ⟨hl, by omega, fun h => absurd h (by omega)⟩
  · injection hv with h1 h2 h3
    subst h1; subst h3
    refine ⟨hl, by simp only [maxLen] at hcm; omega, fun hn => ⟨g, 0, rfl, (Array.getElem?_eq_some_iff.1 hg).1, fun j hj => ?_⟩⟩
    rw [Nat.zero_add, hat.cellAt j (by omega), ucells_at (by omega)]

/-- The cells read as this packet. -/
def PkRd (w : World) (cs : List Value) (p : Pkt) : Prop := ∃ A a B b D d, cs = rtpC p.m p.ty p.sq p.st p.so (.slice A p.ot.length a) p.x p.pf (.slice B p.xt.length b) (.slice D p.pl.length d) p.pd ∧
  RdU w A p.ot.length p.ot ∧ RdS w B p.xt.length b p.xt ∧ RdS w D p.pl.length d p.pl
theorem PkRd.below {w w' : World} {cs : List Value} {p : Pkt} (h : PkRd w cs p) (hb : Below w.heap.size w w') : PkRd w' cs p := by
  obtain ⟨A, a, B, b, D, d, e, h1, h2, h3⟩ := h
  exact ⟨A, a, B, b, D, d, e, h1.below hb, h2.below hb, h3.below hb⟩
theorem PkRd.len {w : World} {cs : List Value} {p : Pkt} (h : PkRd w cs p) : cs.length = 11 := by
  obtain ⟨A, a, B, b, D, d, e, _⟩ := h
  subst e; rfl
theorem PkRd.one {w : World} {cs : List Value} {p : Pkt} (h : PkRd w cs p) : ∀ v ∈ cs, v.oneCell' = true := by
  obtain ⟨A, a, B, b, D, d, e, _⟩ := h
  subst e
  exact rtpC_one _ _ _ _ _ _ _ _ _ _ _ _ _ _ _ _ _
theorem PkOwn.rd {w : World} {b : Nat} {cs : List Value} {p : Pkt} (h : PkOwn w b cs p) : PkRd w cs p := by
  obtain ⟨A, a, B, b', D, d, e, h1, h2, h3⟩ := h
  exact ⟨A, a, B, b', D, d, e, RdU.of_own h1, RdS.of_own h2, RdS.of_own h3⟩

set_option maxRecDepth 100000 in
set_option maxHeartbeats 8000000 in
theorem same10_any (cs1 cs2 : List Value) (p : Pkt) (w : World) (h1 : PkRd w cs1 p) (h2 : PkRd w cs2 p) :
    Calls Tryd.prog 10 #[.agg cs1.toArray, .agg cs2.toArray] w fun e w' => e = .returned (.bool true) ∧ Below w.heap.size w w' := by
  obtain ⟨A1, a1, B1, b1, D1, d1, e1, u1, x1, y1⟩ := h1
  obtain ⟨A2, a2, B2, b2, D2, d2, e2, u2, x2, y2⟩ := h2
  have HW : Hid (Below w.heap.size w ((w.alloc (.cells cs1.toArray 40)).alloc (.cells cs2.toArray 40)) ∧ BlkV ((w.alloc (.cells cs1.toArray 40)).alloc (.cells cs2.toArray 40)) w.heap.size 40 cs1 ∧ BlkV ((w.alloc (.cells cs1.toArray 40)).alloc (.cells cs2.toArray 40)) (w.heap.size + 1) 40 cs2) :=
    Lib.hid ⟨((Below.refl _ _).alloc (Nat.le_refl _) _).alloc (by simp) _, (BlkV.new _ _ _).alloc _, BlkV.new_at _ _ _ _ _ (by simp) rfl⟩
  subst e1; subst e2
  obtain ⟨m, ty, sq, st, so, U, x, pf, X, Y, pd⟩ := p
  simp only at u1 u2 x1 x2 y1 y2 HW ⊢
  have hul := u1.2.1
  obtain ⟨K, hK⟩ : ∃ K, K = U.length := ⟨_, rfl⟩
  rw [← hK] at u1 u2 hul
  simp only [← hK] at HW ⊢
  obtain ⟨cs1, hc1⟩ : ∃ cs1, cs1 = rtpC m ty sq st so (.slice A1 K a1) x pf (.slice B1 X.length b1) (.slice D1 Y.length d1) pd := ⟨_, rfl⟩
  obtain ⟨cs2, hc2⟩ : ∃ cs2, cs2 = rtpC m ty sq st so (.slice A2 K a2) x pf (.slice B2 X.length b2) (.slice D2 Y.length d2) pd := ⟨_, rfl⟩
  rw [← hc1, ← hc2] at HW ⊢
  have HU1 := Lib.hid u1
  have HU2 := Lib.hid u2
  have HX1 := Lib.hid x1
  have HX2 := Lib.hid x2
  have HY1 := Lib.hid y1
  have HY2 := Lib.hid y2
  have k15 : ((w.alloc (.cells cs1.toArray 40)).alloc (.cells cs2.toArray 40)).cell? ⟨w.heap.size, 5, none⟩ = some (.slice A1 K a1) := by rw [HW.out.2.1.cell, hc1]; rfl
  have k25 : ((w.alloc (.cells cs1.toArray 40)).alloc (.cells cs2.toArray 40)).cell? ⟨w.heap.size + 1, 5, none⟩ = some (.slice A2 K a2) := by rw [HW.out.2.2.cell, hc2]; rfl
  have HC1 := Lib.hid hc1
  have HC2 := Lib.hid hc2
  clear u1 u2 x1 x2 y1 y2 hc1 hc2 hK
  go_enter Tryd.func10, Tryd.ntmps10
  go_wp2
  go_loopw [5] (fun i wr => ∃ k : Nat, k ≤ K ∧ i = .int .i64 k ∧ Hid (Below w.heap.size w wr ∧ BlkV wr w.heap.size 40 cs1 ∧ BlkV wr (w.heap.size + 1) 40 cs2)) (fun i _ => K - (intOf i).toNat)
  case atStart => exact ⟨0, by omega, rfl, HW⟩
  case round =>
    obtain ⟨k, hk, rfl, HR⟩ := hrel
    have c15 : wr.cell? ⟨w.heap.size, 5, none⟩ = some (.slice A1 K a1) := by rw [HR.out.2.1.cell, HC1.out]; rfl
    have c25 : wr.cell? ⟨w.heap.size + 1, 5, none⟩ = some (.slice A2 K a2) := by rw [HR.out.2.2.cell, HC2.out]; rfl
    by_cases hkn : k < K
    · have hu1 := HU1.out
      have hu2 := HU2.out
      obtain ⟨g1, o1, rfl, hg1, hu1⟩ := hu1.2.2 (by omega)
      obtain ⟨g2, o2, rfl, hg2, hu2⟩ := hu2.2.2 (by omega)
      have e1 : wr.cell? ⟨g1, o1 + k, none⟩ = some (.int .u32 ((U.getD k 0 : Nat) : Int)) := (HR.out.1.cell (p := ⟨g1, o1 + k, none⟩) hg1).trans (hu1 k hkn)
      have e2 : wr.cell? ⟨g2, o2 + k, none⟩ = some (.int .u32 ((U.getD k 0 : Nat) : Int)) := (HR.out.1.cell (p := ⟨g2, o2 + k, none⟩) hg2).trans (hu2 k hkn)
      obtain ⟨z, hz⟩ : ∃ z : Int, z = ((U.getD k 0 : Nat) : Int) := ⟨_, rfl⟩
      rw [← hz] at e1 e2
      clear hz hu1 hu2 k15 k25
      go_wp2
      go_quiet (fail)
      have HR2 : Hid (Below w.heap.size w (wr.drewN nq) ∧ BlkV (wr.drewN nq) w.heap.size 40 cs1 ∧ BlkV (wr.drewN nq) (w.heap.size + 1) 40 cs2) := Lib.hid ⟨⟨HR.out.1.os, HR.out.1.tape, HR.out.1.output, HR.out.1.size, HR.out.1.block⟩, HR.out.2.1, HR.out.2.2⟩
      go_wp2
      go_roundw
      case rel => exact ⟨k + 1, by omega, by go_num, HR2⟩
      case measure => simp [intOf]; omega
    · have hke : k = K := by omega
      subst hke
      have r1 : ∀ j, wr.cell? ⟨w.heap.size, j, none⟩ = (rtpC m ty sq st so (.slice A1 k a1) x pf (.slice B1 X.length b1) (.slice D1 Y.length d1) pd)[j]? := fun j => by rw [HR.out.2.1.cell, HC1.out]
      have r2 : ∀ j, wr.cell? ⟨w.heap.size + 1, j, none⟩ = (rtpC m ty sq st so (.slice A2 k a2) x pf (.slice B2 X.length b2) (.slice D2 Y.length d2) pd)[j]? := fun j => by rw [HR.out.2.2.cell, HC2.out]
      have p0 : wr.cell? ⟨w.heap.size, 0, none⟩ = some (.bool m) := (r1 0).trans rfl
      have p1 : wr.cell? ⟨w.heap.size, 1, none⟩ = some (.int .u8 (ty : Int)) := (r1 1).trans rfl
      have p2 : wr.cell? ⟨w.heap.size, 2, none⟩ = some (.int .u16 (sq : Int)) := (r1 2).trans rfl
      have p3 : wr.cell? ⟨w.heap.size, 3, none⟩ = some (.int .u32 (st : Int)) := (r1 3).trans rfl
      have p4 : wr.cell? ⟨w.heap.size, 4, none⟩ = some (.int .u32 (so : Int)) := (r1 4).trans rfl
      have p6 : wr.cell? ⟨w.heap.size, 6, none⟩ = some (.bool x) := (r1 6).trans rfl
      have p7 : wr.cell? ⟨w.heap.size, 7, none⟩ = some (.int .u16 (pf : Int)) := (r1 7).trans rfl
      have p8 : wr.cell? ⟨w.heap.size, 8, none⟩ = some (.slice B1 X.length b1) := (r1 8).trans rfl
      have p9 : wr.cell? ⟨w.heap.size, 9, none⟩ = some (.slice D1 Y.length d1) := (r1 9).trans rfl
      have pa : wr.cell? ⟨w.heap.size, 10, none⟩ = some (.int .u8 (pd : Int)) := (r1 10).trans rfl
      have q0 : wr.cell? ⟨w.heap.size + 1, 0, none⟩ = some (.bool m) := (r2 0).trans rfl
      have q1 : wr.cell? ⟨w.heap.size + 1, 1, none⟩ = some (.int .u8 (ty : Int)) := (r2 1).trans rfl
      have q2 : wr.cell? ⟨w.heap.size + 1, 2, none⟩ = some (.int .u16 (sq : Int)) := (r2 2).trans rfl
      have q3 : wr.cell? ⟨w.heap.size + 1, 3, none⟩ = some (.int .u32 (st : Int)) := (r2 3).trans rfl
      have q4 : wr.cell? ⟨w.heap.size + 1, 4, none⟩ = some (.int .u32 (so : Int)) := (r2 4).trans rfl
      have q6 : wr.cell? ⟨w.heap.size + 1, 6, none⟩ = some (.bool x) := (r2 6).trans rfl
      have q7 : wr.cell? ⟨w.heap.size + 1, 7, none⟩ = some (.int .u16 (pf : Int)) := (r2 7).trans rfl
      have q8 : wr.cell? ⟨w.heap.size + 1, 8, none⟩ = some (.slice B2 X.length b2) := (r2 8).trans rfl
      have q9 : wr.cell? ⟨w.heap.size + 1, 9, none⟩ = some (.slice D2 Y.length d2) := (r2 9).trans rfl
      have qa : wr.cell? ⟨w.heap.size + 1, 10, none⟩ = some (.int .u8 (pd : Int)) := (r2 10).trans rfl
      have v1 : (convert 22 9 (.slice B1 X.length b1)).run Tryd.prog wr = .ok (.string (txt X)) wr := run_conv (HX1.out.below HR.out.1) _ _ 5 Tryd.underlying22 Tryd.underlying5 Tryd.underlying9
      have v2 : (convert 22 9 (.slice B2 X.length b2)).run Tryd.prog wr = .ok (.string (txt X)) wr := run_conv (HX2.out.below HR.out.1) _ _ 5 Tryd.underlying22 Tryd.underlying5 Tryd.underlying9
      have v3 : (convert 22 9 (.slice D1 Y.length d1)).run Tryd.prog wr = .ok (.string (txt Y)) wr := run_conv (HY1.out.below HR.out.1) _ _ 5 Tryd.underlying22 Tryd.underlying5 Tryd.underlying9
      have v4 : (convert 22 9 (.slice D2 Y.length d2)).run Tryd.prog wr = .ok (.string (txt Y)) wr := run_conv (HY2.out.below HR.out.1) _ _ 5 Tryd.underlying22 Tryd.underlying5 Tryd.underlying9
      clear r1 r2 k15 k25
      go_wp2
      go_ret
      exact ⟨rfl, HR.out.1⟩
end Go.Proofs.YtmkeioeodlidgaaDoor

namespace Go.Proofs.YtmkeioeodlidgaaDoor
open Go.RowKit
set_option linter.unusedVariables false

theorem zlen : zeroC.length = 11 := rfl
theorem fitz : 0 + zeroC.length ≤ zeroC.length := Nat.le_refl 11
theorem zone : ∀ v ∈ zeroC, v.oneCell' = true := rtpC_one _ _ _ _ _ _ _ _ _ _ _ _ _ _ _ _ _
abbrev rboxW (w : World) : World := (w.alloc (.cells zeroC.toArray 40)).alloc (.cells zeroC.toArray 40)
theorem rbox (w : World) : Below w.heap.size w (rboxW w) ∧ BlkV (rboxW w) w.heap.size 40 zeroC ∧ BlkV (rboxW w) (w.heap.size + 1) 40 zeroC :=
  ⟨((Below.refl _ _).alloc (Nat.le_refl _) _).alloc (by simp) _, (BlkV.new _ _ _).alloc _, BlkV.new_at _ _ _ _ _ (by simp) rfl⟩

/- ways -/
end Go.Proofs.YtmkeioeodlidgaaDoor

namespace Go.Proofs.YtmkeioeodlidgaaDoor
open Go.RowKit
set_option linter.unusedVariables false

/-- A packet under way: its cells in block p behind r, its slices the call's own. -/
structure Under (w wr : World) (m : Bool) (ty sq st so : Nat) (U : List Nat) (A : Option Addr) (a : Nat) (x : Bool) (pf : Nat) (X : List UInt8) (B : Option Addr) (b : Nat) (Y : List UInt8) (D : Option Addr) (d pd : Nat) : Prop where
  blk : BlkV wr (w.heap.size + 1) 40 (rtpC m ty sq st so (.slice A U.length a) x pf (.slice B X.length b) (.slice D Y.length d) pd)
  res : BlkV wr w.heap.size 40 zeroC
  ou : wr.ownsRow (w.heap.size + 2) 24 1 (.slice A U.length a) U.length (ucells U)
  ox : wr.ownsRow (w.heap.size + 2) 5 1 (.slice B X.length b) X.length (cells X)
  oy : wr.ownsRow (w.heap.size + 2) 5 1 (.slice D Y.length d) Y.length (cells Y)
  bel : Below w.heap.size w wr
  siz : w.heap.size + 2 ≤ wr.heap.size
section
variable {w wr w' : World} {m : Bool} {ty sq st so : Nat} {U : List Nat} {A : Option Addr} {a : Nat} {x : Bool} {pf : Nat} {X : List UInt8} {B : Option Addr} {b : Nat} {Y : List UInt8} {D : Option Addr} {d pd : Nat}
theorem Under.drew (h : Under w wr m ty sq st so U A a x pf X B b Y D d pd) : Under w wr.drew m ty sq st so U A a x pf X B b Y D d pd := ⟨h.blk, h.res, h.ou, h.ox, h.oy, h.bel.drew, h.siz⟩
theorem under_start (w : World) : Under w (rboxW w) false 0 0 0 0 [] none 0 false 0 [] none 0 [] none 0 0 := by
  obtain ⟨hb, h1, h2⟩ := rbox w
  exact ⟨h2, h1, World.ownsRow_nil _ _ _ _, World.ownsRow_nil _ _ _ _, World.ownsRow_nil _ _ _ _, hb, by simp [rboxW]⟩
/-- One cell of the packet is laid that is no slice. -/
theorem Under.put (h : Under w wr m ty sq st so U A a x pf X B b Y D d pd) (j : Nat) (v : Value) {m2 : Bool} {ty2 sq2 st2 so2 : Nat} {x2 : Bool} {pf2 pd2 : Nat}
    (hj : (rtpC m ty sq st so (.slice A U.length a) x pf (.slice B X.length b) (.slice D Y.length d) pd).set j v = rtpC m2 ty2 sq2 st2 so2 (.slice A U.length a) x2 pf2 (.slice B X.length b) (.slice D Y.length d) pd2) :
    Under w (wr.setCell ⟨w.heap.size + 1, j, none⟩ v) m2 ty2 sq2 st2 so2 U A a x2 pf2 X B b Y D d pd2 := by
  have ho := Only.set wr (w.heap.size + 1) j v
  refine ⟨?_, h.res.only ho (by omega), own_only h.ou ho (by omega), own_only h.ox ho (by omega), own_only h.oy ho (by omega), h.bel.setCell (by simp) _, by rw [ho.size]; exact h.siz⟩
  rw [← hj]
  exact h.blk.set_ j v
/-- One source more. -/
theorem Under.putU (h : Under w wr m ty sq st so U A a x pf X B b Y D d pd) {U2 : List Nat} {A2 : Option Addr} {a2 : Nat} (hg : wr.grownBy w' (Value.slice A U.length a).ownBlock)
    (hown : w'.ownsRow (w.heap.size + 2) 24 1 (.slice A2 U2.length a2) U2.length (ucells U2)) (hX : ∀ q, (Value.slice A U.length a).ownBlock = some q → (Value.slice B X.length b).ownBlock ≠ some q) (hY : ∀ q, (Value.slice A U.length a).ownBlock = some q → (Value.slice D Y.length d).ownBlock ≠ some q) :
    Under w (w'.setCell ⟨w.heap.size + 1, 5, none⟩ (.slice A2 U2.length a2)) m ty sq st so U2 A2 a2 x pf X B b Y D d pd := by
  have ho := Only.set w' (w.heap.size + 1) 5 (.slice A2 U2.length a2)
  have hq : ∀ q, (Value.slice A U.length a).ownBlock = some q → w.heap.size + 2 ≤ q := fun q hq => (h.ou.lt q hq).1
  refine ⟨(h.blk.grown hg (fun e => by have := hq _ e.symm; omega)).set_ 5 _, (h.res.grown hg (fun e => by have := hq _ e.symm; omega)).only ho (by omega), own_only hown ho (by omega), own_only (h.ox.kept hg ?_) ho (by omega), own_only (h.oy.kept hg ?_) ho (by omega), ?_, ?_⟩
  · rcases hv : (Value.slice A U.length a).ownBlock with _ | q
    · rcases hv2 : (Value.slice B X.length b).ownBlock with _ | q2
      · exact .inl rfl
      · exact .inr (by simp)
    · exact .inr (hX q hv)
  · rcases hv : (Value.slice A U.length a).ownBlock with _ | q
    · rcases hv2 : (Value.slice D Y.length d).ownBlock with _ | q2
      · exact .inl rfl
      · exact .inr (by simp)
    · exact .inr (hY q hv)
  · exact (h.bel.trans (below_of_grown hg h.bel.size (fun k hk => by have := hq k hk; omega))).setCell (by simp) _
  · rw [ho.size]; exact Nat.le_trans h.siz hg.size
/-- The extension's bytes. -/
theorem Under.putX (h : Under w wr m ty sq st so U A a x pf [] none 0 Y D d pd) {X2 : List UInt8} {B2 : Option Addr} {b2 : Nat} (hg : Below wr.heap.size wr w')
    (hown : w'.ownsRow (w.heap.size + 2) 5 1 (.slice B2 X2.length b2) X2.length (cells X2)) :
    Under w (w'.setCell ⟨w.heap.size + 1, 8, none⟩ (.slice B2 X2.length b2)) m ty sq st so U A a x pf X2 B2 b2 Y D d pd := by
  have ho := Only.set w' (w.heap.size + 1) 8 (.slice B2 X2.length b2)
  exact ⟨(h.blk.below hg h.blk.lt).set_ 8 _, (h.res.below hg h.res.lt).only ho (by omega), own_only (own_belowR h.ou hg) ho (by omega), own_only hown ho (by omega), own_only (own_belowR h.oy hg) ho (by omega),
    (h.bel.trans (hg.mono h.bel.size)).setCell (by simp) _, by rw [ho.size]; exact Nat.le_trans h.siz hg.size⟩
/-- The payload. -/
theorem Under.putY (h : Under w wr m ty sq st so U A a x pf X B b [] none 0 pd) {Y2 : List UInt8} {D2 : Option Addr} {d2 : Nat} (hg : Below wr.heap.size wr w')
    (hown : w'.ownsRow (w.heap.size + 2) 5 1 (.slice D2 Y2.length d2) Y2.length (cells Y2)) :
    Under w (w'.setCell ⟨w.heap.size + 1, 9, none⟩ (.slice D2 Y2.length d2)) m ty sq st so U A a x pf X B b Y2 D2 d2 pd := by
  have ho := Only.set w' (w.heap.size + 1) 9 (.slice D2 Y2.length d2)
  exact ⟨(h.blk.below hg h.blk.lt).set_ 9 _, (h.res.below hg h.res.lt).only ho (by omega), own_only (own_belowR h.ou hg) ho (by omega), own_only (own_belowR h.ox hg) ho (by omega), own_only hown ho (by omega),
    (h.bel.trans (hg.mono h.bel.size)).setCell (by simp) _, by rw [ho.size]; exact Nat.le_trans h.siz hg.size⟩
end

end Go.Proofs.YtmkeioeodlidgaaDoor

namespace Go.Proofs.YtmkeioeodlidgaaDoor
open Go.RowKit
set_option linter.unusedVariables false

end Go.Proofs.YtmkeioeodlidgaaDoor

namespace Go.Proofs.YtmkeioeodlidgaaDoor
open Go.RowKit
set_option linter.unusedVariables false

end Go.Proofs.YtmkeioeodlidgaaDoor

namespace Go.Proofs.YtmkeioeodlidgaaDoor
open Go.RowKit
set_option linter.unusedVariables false

end Go.Proofs.YtmkeioeodlidgaaDoor

namespace Go.Proofs.YtmkeioeodlidgaaDoor
open Go.RowKit
set_option linter.unusedVariables false

end Go.Proofs.YtmkeioeodlidgaaDoor

namespace Go.Proofs.YtmkeioeodlidgaaDoor
open Go.RowKit
set_option linter.unusedVariables false

end Go.Proofs.YtmkeioeodlidgaaDoor
