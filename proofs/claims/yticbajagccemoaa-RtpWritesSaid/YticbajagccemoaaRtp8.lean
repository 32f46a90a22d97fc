/- Contracts of package rtp: Read. No statement is proved here. -/
import Derived.Test.YticbajagccemoaaRtp7
import Derived.Laws.ResultCell
namespace Go.Proofs.Yticbajagccemoaa
open Go.RowKit
set_option linter.unusedVariables false

theorem read_results (tmps : Array Value) (w : World) (g h : Nat) (cs : List Value) (y : Int) (hp : tmps.getD 2 undef = .pointer (some ⟨g, 0, none⟩)) (hq : tmps.getD 3 undef = .pointer (some ⟨h, 0, none⟩)) (hg : BlkV w g 28 cs) (hl : cs.length = 11) (hh : BlkV w h 29 [.int .i64 y]) :
    (results Try.f8 tmps).run Try.prog w = .ok (.tuple #[.agg cs.toArray, .int .i64 y]) w := by
  have hp' : tmps[2]?.getD undef = .pointer (some ⟨g, 0, none⟩) := by simpa using hp
  have hq' : tmps[3]?.getD undef = .pointer (some ⟨h, 0, none⟩) := by simpa using hq
  have hc : w.cell? ⟨h, 0, none⟩ = some (.int .i64 y) := (hh.cell 0).trans rfl
  obtain ⟨d, h1, h2, h3⟩ := row11 hl
  have hld := run_loadVar_row (P := Try.prog) w g 28 28 cs.toArray (0, 0) d hg h1 (by cases d <;> simp_all) (by simpa using h3)
  have hle : (loadVar 29 ⟨h, 0, none⟩).run Try.prog w = .ok (.int .i64 y) w := by simp [go_sem, hc]
  simp [results, Try.results8, hp', hq', asAddr, hld, hle]

/-- The door behind a body that gave up. -/
theorem read_caught (c : Int) (cs1 : List Value) (y : Int) (tmps : Array Value) (g h : Nat) (W : World) (R : Ending → World → Prop) (hp : tmps.getD 2 undef = .pointer (some ⟨g, 0, none⟩)) (hq : tmps.getD 3 undef = .pointer (some ⟨h, 0, none⟩))
    (hg : BlkV W g 28 cs1) (hl : cs1.length = 11) (hh : BlkV W h 29 [.int .i64 y]) (hne : g ≠ h)
    (hR : ∀ w', Below (min g h) W w' → R (.returned (.tuple #[.agg zeroC.toArray, .int .i64 c])) w') :
    bodyPostD Try.prog Try.f8 R (.panic (gone c)) { tmps := tmps, defers := [{ target := .fn (.func 14) #[.pointer (some ⟨g, 0, none⟩), .pointer (some ⟨h, 0, none⟩)], args := #[] }] } W := by
  refine leaves_cons (f := 14) (args := #[.pointer (some ⟨g, 0, none⟩), .pointer (some ⟨h, 0, none⟩)]) (by simp [gone]) (by simp [go_sem]) ?_
  refine (catch_panicking c g h cs1 y [] W hg hl hh hne).mono ?_
  rintro e u' w'' ⟨rfl, rfl, h1, h2, hb⟩
  exact ⟨_, read_results tmps w'' g h zeroC c hp hq h1 rfl h2, hR _ hb⟩
/-- The door behind a body that has gone through. -/
theorem read_through (cs1 : List Value) (y : Int) (tmps : Array Value) (g h : Nat) (W : World) (R : Ending → World → Prop) (hp : tmps.getD 2 undef = .pointer (some ⟨g, 0, none⟩)) (hq : tmps.getD 3 undef = .pointer (some ⟨h, 0, none⟩))
    (hg : BlkV W g 28 cs1) (hl : cs1.length = 11) (hh : BlkV W h 29 [.int .i64 y])
    (hR : R (.returned (.tuple #[.agg cs1.toArray, .int .i64 y])) W) :
    bodyPostD Try.prog Try.f8 R .ret { tmps := tmps, defers := [{ target := .fn (.func 14) #[.pointer (some ⟨g, 0, none⟩), .pointer (some ⟨h, 0, none⟩)], args := #[] }] } W := by
  refine leaves_cons (f := 14) (args := #[.pointer (some ⟨g, 0, none⟩), .pointer (some ⟨h, 0, none⟩)]) (by simp) (by simp [go_sem]) ?_
  refine (catch_idle g h W).mono ?_
  rintro e u' w'' ⟨rfl, rfl, rfl⟩
  exact ⟨_, read_results tmps w'' g h cs1 y hp hq hg hl hh, hR⟩

theorem read_boxes (w : World) : Below w.heap.size w ((w.alloc (.cells zeroC.toArray 28)).alloc (.cells #[.int .i64 0] 29)) ∧ BlkV ((w.alloc (.cells zeroC.toArray 28)).alloc (.cells #[.int .i64 0] 29)) w.heap.size 28 zeroC ∧ BlkV ((w.alloc (.cells zeroC.toArray 28)).alloc (.cells #[.int .i64 0] 29)) (w.heap.size + 1) 29 [.int .i64 0] :=
  ⟨((Below.refl _ _).alloc (Nat.le_refl _) _).alloc (by simp) _, (BlkV.new _ _ _).alloc _, BlkV.new_at _ _ _ _ _ (by simp) rfl⟩

set_option maxRecDepth 100000 in
theorem read_long (A : Option Addr) (n c : Nat) (w : World) (hs : n ≤ 9223372036854775807) (hm : 1200 < n) :
    Calls Try.prog 8 #[.slice A n c] w fun e w' => e = .returned (.tuple #[.agg zeroC.toArray, .int .i64 3]) ∧ Below w.heap.size w w' := by
  have hmf : ∀ (fn : Fn) (first cap : Array Value) (w : World), (Instr.makeFunc fn first cap).run Try.prog w = .ok (.func fn first cap) w := fun _ _ _ _ => rfl
  have hz := zero28
  go_enter_defers Try.func8, Try.ntmps8
  go_wp2_with (first
    | (go_at_call 15; ((with_reducible refine (refuse_yes _ _ _ ?_).mono ?_); (first | rfl | assumption | (simp; omega)); rintro e w' ⟨rfl, rfl⟩)))
  obtain ⟨b, h1, h2⟩ := read_boxes w
  exact read_caught 3 zeroC 0 _ _ _ _ _ rfl rfl h1 rfl h2 (by omega) (fun w' hb => ⟨rfl, b.trans (hb.mono (by omega))⟩)

abbrev readW (w : World) (A : Option Addr) (n c : Nat) : World := ((w.alloc (.cells zeroC.toArray 28)).alloc (.cells #[.int .i64 0] 29)).alloc (.cells #[.slice A n c] 48)
theorem read_rdr (w : World) (A : Option Addr) (n c : Nat) (bs : List UInt8) (hr : RdS w A n c bs) : Rdr (readW w A n c) (w.heap.size + 1 + 1) bs ∧ Below w.heap.size w (readW w A n c) ∧ BlkV (readW w A n c) w.heap.size 28 zeroC ∧ BlkV (readW w A n c) (w.heap.size + 1) 29 [.int .i64 0] := by
  obtain ⟨b, h1, h2⟩ := read_boxes w
  have b2 : Below w.heap.size w (readW w A n c) := b.alloc b.size _
  exact ⟨⟨A, n, c, BlkV.new_at _ _ _ _ _ (by simp) rfl, hr.below b2, hr.lo (by omega)⟩, b2, h1.alloc _, h2.alloc _⟩
theorem PkOwn.mono {w : World} {b b2 : Nat} {cs : List Value} {p : Pkt} (h : PkOwn w b cs p) (hb : b2 ≤ b) : PkOwn w b2 cs p := by
  obtain ⟨A, a, B, b', D, d, e, h1, h2, h3⟩ := h
  exact ⟨A, a, B, b', D, d, e, own_mono h1 hb, own_mono h2 hb, own_mono h3 hb⟩
theorem PkOwn.only {w w' : World} {g b : Nat} {cs : List Value} {p : Pkt} (h : PkOwn w b cs p) (ho : Only g w w') (hb : g < b) : PkOwn w' b cs p := by
  obtain ⟨A, a, B, b', D, d, e, h1, h2, h3⟩ := h
  exact ⟨A, a, B, b', D, d, e, own_only h1 ho hb, own_only h2 ho hb, own_only h3 ho hb⟩
theorem own_below {w w' : World} {base n : Nat} {e : TypeId} {v : Value} {xs : List Value} (h : w.ownsRow base e 1 v n xs) (hb : Below w.heap.size w w') : w'.ownsRow base e 1 v n xs :=
  h.kept (grown_of_below hb none) (by rcases hq : v.ownBlock with _ | q <;> simp)
theorem PkOwn.below {w w' : World} {b : Nat} {cs : List Value} {p : Pkt} (h : PkOwn w b cs p) (hb : Below w.heap.size w w') : PkOwn w' b cs p := by
  obtain ⟨A, a, B, b', D, d, e, h1, h2, h3⟩ := h
  exact ⟨A, a, B, b', D, d, e, own_below h1 hb, own_below h2 hb, own_below h3 hb⟩
theorem PkOwn.len {w : World} {b : Nat} {cs : List Value} {p : Pkt} (h : PkOwn w b cs p) : cs.length = 11 := by
  obtain ⟨A, a, B, b', D, d, e, _⟩ := h
  subst e; rfl
theorem PkOwn.one {w : World} {b : Nat} {cs : List Value} {p : Pkt} (h : PkOwn w b cs p) : ∀ v ∈ cs, v.oneCell' = true := by
  obtain ⟨A, a, B, b', D, d, e, _⟩ := h
  subst e
  exact rtpC_one _ _ _ _ _ _ _ _ _ _ _ _ _ _ _ _ _

set_option maxRecDepth 100000 in
theorem read_no (A : Option Addr) (n c : Nat) (bs : List UInt8) (w : World) (hr : RdS w A n c bs) (hm : ¬ 1200 < n) (hy : whyR bs ≠ 0) :
    Calls Try.prog 8 #[.slice A n c] w fun e w' => e = .returned (.tuple #[.agg zeroC.toArray, .int .i64 (whyR bs)]) ∧ Below w.heap.size w w' := by
  have hmf : ∀ (fn : Fn) (first cap : Array Value) (w : World), (Instr.makeFunc fn first cap).run Try.prog w = .ok (.func fn first cap) w := fun _ _ _ _ => rfl
  have hz := zero28
  obtain ⟨hrd, b3, h1, h2⟩ := read_rdr w A n c bs hr
  have HP := Lib.hid (packet_no _ bs _ hrd (by rw [hr.len]; exact hm) hy)
  clear hrd hr hy
  go_enter_defers Try.func8, Try.ntmps8
  go_wp2_with (first
    | (go_at_call 15; ((with_reducible refine (refuse_no _ _ _ ?_).mono ?_); (first | rfl | assumption | (simp; omega)); rintro e w' ⟨rfl, rfl⟩))
    | (go_at_call 16; ((with_reducible refine (Hid.out HP).mono ?_); rintro e w4 ⟨rfl, hg4⟩)))
  exact read_caught _ zeroC 0 _ _ _ _ _ rfl rfl (h1.grown hg4 (by intro e; injection e with e; omega)) rfl (h2.grown hg4 (by intro e; injection e with e; omega)) (by omega)
    (fun w' hb => ⟨rfl, (b3.trans (below_of_grown hg4 b3.size (fun k hk => by injection hk with hk; omega))).trans (hb.mono (by omega))⟩)

set_option maxRecDepth 100000 in
theorem read_ok (A : Option Addr) (n c : Nat) (bs : List UInt8) (w : World) (hr : RdS w A n c bs) (hm : ¬ 1200 < n) (hy : whyR bs = 0) :
    Calls Try.prog 8 #[.slice A n c] w fun e w' => ∃ cs, e = .returned (.tuple #[.agg cs.toArray, .int .i64 0]) ∧ PkOwn w' w.heap.size cs (pktR bs) ∧ Below w.heap.size w w' := by
  have hmf : ∀ (fn : Fn) (first cap : Array Value) (w : World), (Instr.makeFunc fn first cap).run Try.prog w = .ok (.func fn first cap) w := fun _ _ _ _ => rfl
  have hz := zero28
  obtain ⟨hrd, b3, h1, h2⟩ := read_rdr w A n c bs hr
  have HP := Lib.hid (packet_ok _ bs _ hrd hy)
  have HB3 := Lib.hid b3
  have H1 := Lib.hid h1
  have H2 := Lib.hid h2
  clear hrd hr hy b3 h1 h2
  have hsz : (readW w A n c).heap.size = w.heap.size + 3 := by simp [readW]
  have HSZ := Lib.hid hsz
  clear hsz
  go_enter_defers Try.func8, Try.ntmps8
  go_wp2_with (first
    | (go_at_call 15; ((with_reducible refine (refuse_no _ _ _ ?_).mono ?_); (first | rfl | assumption | (simp; omega)); rintro e w' ⟨rfl, rfl⟩))
    | (go_at_call 16; ((with_reducible refine (Hid.out HP).mono ?_); rintro e w4 ⟨cs, rfl, hpk, hg4⟩; have HPK := Lib.hid hpk; have hfit : Hid (0 + cs.length ≤ zeroC.length) := Lib.hid (by rw [hpk.len]; exact Nat.le_refl 11); have HG4 := Lib.hid hg4; have k1 := Lib.hid (H1.out.grown hg4 (by intro e; injection e with e; omega)); have k2 := Lib.hid (H2.out.grown hg4 (by intro e; injection e with e; omega)); clear hpk hg4))
    | ((with_reducible refine wpList_st rfl 28 (.tmp 2) (.tmp 12) rfl w.heap.size 0 cs rfl rfl 28 zeroC k1.out hfit.out (row11 HPK.out.len) HPK.out.one ?_); intro w5 hB5 ho5; rw [splice_all _ _ (by rw [HPK.out.len]; rfl)] at hB5; have k3 := k2.out.only ho5 (by omega); have hc5 : w5.cell? ⟨w.heap.size + 1, 0, none⟩ = some (.int .i64 0) := (k3.cell 0).trans rfl; have hf5 := k3.frozen 0))
  have hsz := HSZ.out
  have k6 := hB5.far (p := ⟨w.heap.size + 1, 0, none⟩) (show w.heap.size ≠ w.heap.size + 1 by omega) (.int .i64 0)
  have k7 := k3.set_ 0 (.int .i64 0)
  have ho6 := Only.set w5 (w.heap.size + 1) 0 (.int .i64 0)
  exact read_through cs 0 _ _ _ _ _ rfl rfl k6 HPK.out.len k7 ⟨cs, rfl, ((HPK.out.only ho5 (by omega)).only ho6 (by omega)).mono (by omega),
    ((HB3.out.trans (below_of_grown HG4.out HB3.out.size (fun k hk => by injection hk with hk; omega))).trans (ho5.below (Nat.le_refl _))).trans (ho6.below (by omega))⟩
end Go.Proofs.Yticbajagccemoaa
