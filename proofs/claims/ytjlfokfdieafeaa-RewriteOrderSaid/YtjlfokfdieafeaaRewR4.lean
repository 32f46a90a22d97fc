/- What the document's answers for layer 22 (tenailleref22) answer: a packet's place. No statement is proved here. -/
import Derived.Test.YtjlfokfdieafeaaRewR3
import Derived.Test.YtjlfokfdieafeaaApp
import Derived.StillTailTactics
import Derived.Deep.RegionLaw
import Derived.Deep.RegionHeld3
import Derived.Test.YtjlfokfdieafeaaReg
namespace Go.Proofs.Ytjlfokfdieafeaa
open Go.RowKit
set_option linter.unusedVariables false

/-- The picture's number, as it is reckoned. -/
theorem pic_rem {v : Int} (h : -65536 ≤ v ∧ v ≤ 131072) : (0 ≤ v.tmod 32768 ∧ v.tmod 32768 = v % 32768 ∧ v % 32768 < 32768) ∨ (v.tmod 32768 < 0 ∧ -32768 < v.tmod 32768 ∧ v.tmod 32768 + 32768 = v % 32768 ∧ v % 32768 < 32768) := by
  by_cases h0 : 0 ≤ v
  · left
    rw [Int.tmod_eq_emod_of_nonneg h0]
    omega
  · have e : v.tmod 32768 = -((-v) % 32768) := by
      rw [← Int.tmod_eq_emod_of_nonneg (show (0 : Int) ≤ -v by omega), Int.neg_tmod, Int.neg_neg]
    rw [e]
    omega
theorem own_same22 {w w2 : World} {base n sz : Nat} {e : TypeId} {v : Value} {xs : List Value} (h : w.ownsRow base e sz v n xs) (hk : ∀ k, v.ownBlock = some k → w2.heap[k]? = w.heap[k]?) : w2.ownsRow base e sz v n xs := by
  refine ⟨h.1, ?_⟩
  rcases h.2 with h2 | ⟨g, cap, cur, hv, hb, hg, h3⟩
  · exact .inl h2
  · exact .inr ⟨g, cap, cur, hv, hb, (hk g (by rw [hv]; rfl)).trans hg, h3⟩
theorem r22_lone : Lone R22 where
  low := fun w p s F ⟨g, vO, _, h, ho, hF⟩ k hk => ((hF k).1 hk).elim (fun e => by rw [e]; exact h.lt) (fun e => (ho.lt k e).2)
  stay := fun w w2 p s F ⟨g, vO, hp, h, ho, hF⟩ hz hk => ⟨g, vO, hp, (hk g ((hF g).2 (.inl rfl))).trans h, own_same22 ho (fun k h1 => hk k ((hF k).2 (.inr h1))), hF⟩
theorem eMpd : ElT 35 36 3 := elT (by8 := 16) (z := .agg #[.int .i64 0, .int .u32 0, .int .u16 0]) Try.underlying36 (by kernel_rfl) (by omega) rfl (by omega)
/-- A place is put behind the places. -/
theorem grown22 {w w2 : World} {g : Nat} {s : Wtr} {vO v1 : Value} {F : Nat → Prop} {y : Mpd} (hB : BlkV w g 38 (wcells s vO)) (ho : w.ownsRow 0 35 3 vO s.O.length (mcells s.O)) (hF : ∀ k, F k ↔ k = g ∨ vO.ownBlock = some k)
    (ho1 : w2.ownsRow 0 35 3 v1 (s.O.length + 1) (mcells s.O ++ mrow y)) (hg : ((w.alloc (.cells (mrow y).toArray 35)).drew).grownBy w2 vO.ownBlock) (hn : v1.ownBlock = vO.ownBlock ∨ v1.ownBlock = some w.heap.size ∨ v1.ownBlock = some (w.heap.size + 1)) :
    BlkV w2 g 38 (wcells s vO) ∧ StpK R22 (.pointer (some ⟨g, 0, none⟩)) ⟨s.first, s.fol, s.th, s.he, s.O ++ [y]⟩ F w (w2.setCell ⟨g, 8, none⟩ v1) ∧ (∀ k e cs, BlkV w k e cs → k ≠ g → vO.ownBlock ≠ some k → BlkV (w2.setCell ⟨g, 8, none⟩ v1) k e cs) := by
  have hne := own_ne ho hB neW
  have f1 : Fr F w (w.alloc (.cells (mrow y).toArray 35)).drew := .of_below (((Below.refl _ _).alloc (Nat.le_refl _) _).trans ⟨rfl, rfl, rfl, Nat.le_refl _, fun _ _ => rfl⟩)
  have f2 : Fr (fun k => vO.ownBlock = some k) (w.alloc (.cells (mrow y).toArray 35)).drew w2 := .of_grown hg (fun p hp => hp)
  have hB2 : BlkV w2 g 38 (wcells s vO) := ((hB.alloc _).drew).fr f2 (fun e => hne e)
  have f3 : Fr (fun k => k = g) w2 (w2.setCell ⟨g, 8, none⟩ v1) := .of_only (Only.set _ _ _ _) rfl
  have fr := (f1.trans f2 (fun b hb => .inl ((hF b).2 (.inr hb)))).trans f3 (fun b hb => .inl ((hF b).2 (.inl hb)))
  refine ⟨hB2, ⟨fun k => k = g ∨ v1.ownBlock = some k, ⟨g, v1, rfl, hB2.set_ 8 v1, ?_, fun k => Iff.rfl⟩, fr, fun k hk => ?_⟩, fun k e cs hk hkg hkv => ?_⟩
  · rw [List.length_append, mcells_snoc]
    exact own_fr ho1 f3 (fun k hk e => own_ne ho1 hB2 neW (by rw [← e]; exact hk))
  · rcases hk with hk | hk
    · exact .inl ((hF k).2 (.inl hk))
    · rcases hn with e | e | e
      · exact .inl ((hF k).2 (.inr (by rw [← e]; exact hk)))
      · rw [e] at hk
        injection hk with hk
        right; omega
      · rw [e] at hk
        injection hk with hk
        right; omega
  · exact (((hk.alloc _).drew).fr f2 hkv).fr f3 hkg
/-- A cell of the call's own turns behind a step. -/
theorem fin22 {w wb wd w9 : World} {v : Value} {s' : Wtr} {F : Nat → Prop} {b : Nat} (h : StpK R22 v s' F wb wd) (hb : Below w.heap.size w wb) (hlow : ∀ k, F k → k < w.heap.size) (hbx : w.heap.size ≤ b) (hbz : b < wb.heap.size) (ho : Only b wd w9) : StpK R22 v s' F w w9 := by
  obtain ⟨F', k1, k2, k3⟩ := h
  have hz := hb.size
  refine ⟨F', r22_lone.fr k1 (Fr.of_only (F := fun k => k = b) ho rfl) (fun k hk e => ?_), (Fr.behind hb k2).trans (Fr.of_only (F := fun k => k = b) ho rfl) (fun i hi => .inr (by omega)), fun k hk => ?_⟩
  · rcases k3 k hk with h | h
    · have := hlow k h; omega
    · omega
  · rcases k3 k hk with h | h
    · exact .inl h
    · right; omega
/-- What a place put behind the places leaves, cells and all. -/
theorem gr22 {w w2 : World} {w0 : Nat} {g : Nat} {s : Wtr} {A : Option Addr} {c N : Nat} {v1 : Value} {F : Nat → Prop} {y : Mpd} {a b : Nat} {ca cb : List Value} (hN : N = s.O.length) (hB : BlkV w g 38 (wcells s (.slice A N c))) (ho : w.ownsRow 0 35 3 (.slice A N c) N (mcells s.O)) (hF : ∀ k, F k ↔ k = g ∨ (Value.slice A N c).ownBlock = some k)
    (ha : BlkV w a 35 ca) (hb : BlkV w b 35 cb) (hag : a ≠ g) (hbg : b ≠ g) (hlow : ∀ k, (Value.slice A N c).ownBlock = some k → k < w0) (h0a : w0 ≤ a) (h0b : w0 ≤ b)
    (ho1 : w2.ownsRow 0 35 3 v1 (N + 1) (mcells s.O ++ mrow y)) (hg : ((w.alloc (.cells (mrow y).toArray 35)).drew).grownBy w2 (Value.slice A N c).ownBlock) (hn : v1.ownBlock = (Value.slice A N c).ownBlock ∨ v1.ownBlock = some w.heap.size ∨ v1.ownBlock = some (w.heap.size + 1)) :
    (w2.cell? ⟨g, 8, none⟩ = some (.slice A N c) ∧ w2.frozen? ⟨g, 8, none⟩ = false ∧ g < w2.heap.size) ∧ StpK R22 (.pointer (some ⟨g, 0, none⟩)) ⟨s.first, s.fol, s.th, s.he, s.O ++ [y]⟩ F w (w2.setCell ⟨g, 8, none⟩ v1) ∧ BlkV (w2.setCell ⟨g, 8, none⟩ v1) a 35 ca ∧ BlkV (w2.setCell ⟨g, 8, none⟩ v1) b 35 cb := by
  subst hN
  obtain ⟨q1, q2, q3⟩ := grown22 (s := s) (y := y) hB ho hF ho1 hg hn
  exact ⟨⟨(q1.cell 8).trans rfl, q1.frozen 8, q1.lt⟩, q2, q3 _ _ _ ha hag (fun e => by have := hlow _ e; omega), q3 _ _ _ hb hbg (fun e => by have := hlow _ e; omega)⟩
theorem cell_old_sl22 {a : Addr} {v : Value} (w : World) (o : Obj) (h : w.cell? a = some v) : (w.alloc o).drew.cell? a = some v := (World.cell?_alloc_some w a o (by rw [h]; rfl)).trans h
set_option maxRecDepth 100000 in
set_option maxHeartbeats 2000000 in
theorem rmap_ok22 (g : Nat) (s : Wtr) (F : Nat → Prop) (x : Mpd) (B : Int) (w : World) (h : R22 w (.pointer (some ⟨g, 0, none⟩)) s F) (hk : OkW s B) (hB0 : B ≤ 9223372036854775807) (hx : OkM x) (hl : s.O.length ≤ 1000) (he : mapE s x = 0) (hsum : s.he.i + (x.i - s.th.i) ≤ 9223372036854775807) :
    Calls Try.prog 9 #[.pointer (some ⟨g, 0, none⟩), .agg #[.int .i64 x.i, .int .u32 x.st, .int .u16 x.pc]] w fun e w' => e = .returned (.tuple #[.agg #[.int .i64 (plcW s x).i, .int .u32 (plcW s x).st, .int .u16 (plcW s x).pc], .int .i64 0]) ∧ Hid (StpK R22 (.pointer (some ⟨g, 0, none⟩)) (mapW s x) F w w') := by
  obtain ⟨g2, vO, e, hB, ho, hF⟩ := h
  cases e
  have gl := hB.lt
  have hz : ∀ wx : World, (zeroValue 35).run Try.prog wx = .ok (.agg #[.int .i64 0, .int .u32 0, .int .u16 0]) wx := fun wx => by kernel_rfl
  have hfol : s.fol = true ∧ 0 ≤ x.i ∧ s.th.i ≤ x.i := by
    unfold mapE at he
    split at he
    · omega
    · rename_i h1
      simp only [not_or] at h1
      split at he
      · omega
      · exact ⟨by simpa using h1.1, by omega, by omega⟩
  have hth0 := hk.th.2 hfol.1
  have hth := hk.th.1
  have hhe := hk.he
  have HK := Lib.hid (And.intro hB (And.intro ho hF))
  have HMW : Hid (mapW s x = ⟨s.first, s.fol, s.th, s.he, s.O ++ [plcW s x]⟩) := Lib.hid (by unfold mapW; rw [if_pos he])
  have HPL : Hid (plcW s x = ⟨s.he.i + (x.i - s.th.i), (s.he.st + (x.st - s.th.st)) % 4294967296, (s.he.pc + x.pc - s.th.pc) % 32768⟩) := Lib.hid rfl
  obtain ⟨xi, xs, xp⟩ := x
  obtain ⟨fi, fo, ⟨ti, ts, tp⟩, ⟨hi, hs, hp⟩, O⟩ := s
  simp only [OkM] at hfol hth0 hth hhe hx HPL hl hsum
  obtain ⟨rfl, hx0, hxt⟩ := hfol
  have c1 : w.cell? ⟨g, 1, none⟩ = some (.bool true) := (hB.cell 1).trans rfl
  have c2 : w.cell? ⟨g, 2, none⟩ = some (.int .i64 ti) := (hB.cell 2).trans rfl
  have c3 : w.cell? ⟨g, 3, none⟩ = some (.int .u32 ts) := (hB.cell 3).trans rfl
  have c4 : w.cell? ⟨g, 4, none⟩ = some (.int .u16 tp) := (hB.cell 4).trans rfl
  have c5 : w.cell? ⟨g, 5, none⟩ = some (.int .i64 hi) := (hB.cell 5).trans rfl
  have c6 : w.cell? ⟨g, 6, none⟩ = some (.int .u32 hs) := (hB.cell 6).trans rfl
  have c7 : w.cell? ⟨g, 7, none⟩ = some (.int .u16 hp) := (hB.cell 7).trans rfl
  have hpic := pic_rem (v := hp + xp - tp) (by omega)
  obtain ⟨r, hr⟩ : ∃ r, r = (hp + xp - tp).tmod 32768 := ⟨_, rfl⟩
  obtain ⟨P, hP⟩ : ∃ P, P = (hp + xp - tp) % 32768 := ⟨_, rfl⟩
  obtain ⟨S, hS⟩ : ∃ S, S = (hs + (xs - ts)) % 4294967296 := ⟨_, rfl⟩
  have es : (hs + (xs - ts) % 4294967296) % 4294967296 = S := by omega
  rw [← hr, ← hP] at hpic
  rw [← hP, ← hS] at HPL
  have hSb : 0 ≤ S ∧ S < 4294967296 := by omega
  replace hr := hr.symm
  have w1 : IntKind.i64.wrap hp = hp := IntWalk.i64_in _ (by omega)
  have w2 : IntKind.i64.wrap xp = xp := IntWalk.i64_in _ (by omega)
  have w3 : IntKind.i64.wrap tp = tp := IntWalk.i64_in _ (by omega)
  have w4 : IntKind.i64.wrap (hp + xp) = hp + xp := IntWalk.i64_in _ (by omega)
  have w5 : IntKind.i64.wrap (hp + xp - tp) = hp + xp - tp := IntWalk.i64_in _ (by omega)
  have hPb : 0 ≤ P ∧ P < 32768 := by omega
  have u1 : IntKind.i64.wrap (r + 32768) = r + 32768 := IntWalk.i64_in _ (by omega)
  obtain ⟨D, hD⟩ : ∃ D, D = (xs - ts) % 4294967296 := ⟨_, rfl⟩
  obtain ⟨X, hX⟩ : ∃ X, X = hi + (xi - ti) := ⟨_, rfl⟩
  have v1 : IntKind.i64.wrap (xi - ti) = xi - ti := IntWalk.i64_in _ (by omega)
  have v2 : IntKind.i64.wrap (hi + (xi - ti)) = X := by rw [hX]; exact IntWalk.i64_in _ (by omega)
  have v3 : IntKind.u32.wrap (xs - ts) = D := by rw [IntKind.wrap_u32, hD]
  have v4 : IntKind.u32.wrap (hs + D) = S := by rw [IntKind.wrap_u32, hD]; exact es
  have v5 : IntKind.u16.wrap P = P := IntWalk.u16_in _ (by omega)
  have HV := Lib.hid (And.intro v1 (And.intro v2 (And.intro v3 (And.intro v4 (And.intro v5 u1)))))
  have H8 : Hid ((r < 0 ∧ -32768 < r ∧ r + 32768 = P) ∨ (0 ≤ r ∧ r < 32768 ∧ r = P)) := Lib.hid (by omega)
  have HWR := Lib.hid (And.intro w1 (And.intro w2 (And.intro w3 (And.intro w4 (And.intro w5 hr)))))
  have HL := Lib.hid hl
  clear hB ho hF hk he hP hS w1 w2 w3 w4 w5 hr v1 v2 v3 v4 v5 u1 hx hth0 hth hhe hsum hpic hSb hPb hD es hB0 hl
  go_enter Try.func9, Try.ntmps9
  go_upto_region 3 with (fail)
  go_quiet (fail)
  obtain ⟨w9, hw9⟩ : ∃ w9, w9 = ((w.alloc (.cells #[.int .i64 xi, .int .u32 xs, .int .u16 xp] 35)).alloc (.cells #[.int .i64 0, .int .u32 0, .int .u16 0] 35)).drewN nq := ⟨_, rfl⟩
  have HW9 : Hid (BlkV w9 w.heap.size 35 [.int .i64 xi, .int .u32 xs, .int .u16 xp] ∧ BlkV w9 (w.heap.size + 1) 35 [.int .i64 0, .int .u32 0, .int .u16 0] ∧ Below w.heap.size w w9 ∧ w.heap.size + 2 ≤ w9.heap.size) := Lib.hid (by
    rw [hw9]
    exact ⟨(BlkV.new w 35 [.int .i64 xi, .int .u32 xs, .int .u16 xp]).alloc _, twoB w _ [.int .i64 0, .int .u32 0, .int .u16 0] 35, (twoBelow w _ _).trans ⟨rfl, rfl, rfl, Nat.le_refl _, fun _ _ => rfl⟩, by show _ ≤ ((w.heap.push _).push _).size; simp⟩)
  rw [← hw9]
  clear hw9 c1 c2 c3 c4 c5 c6 c7
  have HB9 := Lib.hid (HK.out.1.below HW9.out.2.2.1 gl)
  have c2 : w9.cell? ⟨g, 2, none⟩ = some (.int .i64 ti) := (HB9.out.cell 2).trans rfl
  have c3 : w9.cell? ⟨g, 3, none⟩ = some (.int .u32 ts) := (HB9.out.cell 3).trans rfl
  have c4 : w9.cell? ⟨g, 4, none⟩ = some (.int .u16 tp) := (HB9.out.cell 4).trans rfl
  have c5 : w9.cell? ⟨g, 5, none⟩ = some (.int .i64 hi) := (HB9.out.cell 5).trans rfl
  have c6 : w9.cell? ⟨g, 6, none⟩ = some (.int .u32 hs) := (HB9.out.cell 6).trans rfl
  have c7 : w9.cell? ⟨g, 7, none⟩ = some (.int .u16 hp) := (HB9.out.cell 7).trans rfl
  obtain ⟨bx, hbx⟩ : ∃ bx, bx = w.heap.size := ⟨_, rfl⟩
  have k0 : w9.cell? ⟨bx, 0, none⟩ = some (.int .i64 xi) := by rw [hbx]; exact (HW9.out.1.cell 0).trans rfl
  have k1 : w9.cell? ⟨bx, 1, none⟩ = some (.int .u32 xs) := by rw [hbx]; exact (HW9.out.1.cell 1).trans rfl
  have k2 : w9.cell? ⟨bx, 2, none⟩ = some (.int .u16 xp) := by rw [hbx]; exact (HW9.out.1.cell 2).trans rfl
  have HBX := Lib.hid hbx
  rw [← hbx]
  clear hbx
  go_upto_region 5 with (fail)
  go_quiet (fail)
  have hE : ((wrap64 (wrap64 (wrap64 hp + wrap64 xp) - wrap64 tp)).tmod 32768) = r := by
    obtain ⟨w1, w2, w3, w4, w5, hr⟩ := HWR.out
    rw [IntWalk.i64_left] at w1 w2 w3 w4 w5
    rw [w1, w2, w4, w3, w5, hr]
  rw [hE]
  clear hE
  obtain ⟨wa, hwa⟩ : ∃ wa, wa = w9.drewN nq := ⟨_, rfl⟩
  have HWA : Hid (∀ v g' e, BlkV w9 g' e v → BlkV wa g' e v) := Lib.hid (fun v g' e h => by rw [hwa]; exact h)
  have HWB : Hid (Below w.heap.size w wa ∧ w.heap.size + 2 ≤ wa.heap.size) := Lib.hid (by rw [hwa]; exact ⟨HW9.out.2.2.1.trans ⟨rfl, rfl, rfl, Nat.le_refl _, fun _ _ => rfl⟩, HW9.out.2.2.2⟩)
  have c2 : wa.cell? ⟨g, 2, none⟩ = some (.int .i64 ti) := by rw [hwa]; exact c2
  have c3 : wa.cell? ⟨g, 3, none⟩ = some (.int .u32 ts) := by rw [hwa]; exact c3
  have c5 : wa.cell? ⟨g, 5, none⟩ = some (.int .i64 hi) := by rw [hwa]; exact c5
  have c6 : wa.cell? ⟨g, 6, none⟩ = some (.int .u32 hs) := by rw [hwa]; exact c6
  have k0 : wa.cell? ⟨bx, 0, none⟩ = some (.int .i64 xi) := by rw [hwa]; exact k0
  have k1 : wa.cell? ⟨bx, 1, none⟩ = some (.int .u32 xs) := by rw [hwa]; exact k1
  have gla : g < wa.heap.size := by rw [hwa]; exact HB9.out.lt
  have gxa : bx < wa.heap.size := by rw [hwa, HBX.out]; exact HW9.out.1.lt
  rw [← hwa]
  clear hwa c4 c7 k2
  go_upto_region 6 with (fail)
  go_upto_if 47 with (fail)
  go_cut [6] (fun vp wx => vp = .int .i64 P ∧ wx = wa)
  case first =>
    obtain h8 := H8.out
    rcases h8 with ⟨h8, h7, h9⟩ | ⟨h8, h7, h9⟩
    · have H9 := Lib.hid h9
      clear h9 hX
      go_wp2
      go_meet
      exact ⟨congrArg (Value.int .i64) H9.out, rfl⟩
    · have H9 := Lib.hid h9
      clear h9 hX
      go_wp2
      go_meet
      exact ⟨congrArg (Value.int .i64) H9.out, rfl⟩
  case rest =>
    obtain ⟨rfl, hcw⟩ := hcut
    rw [hcw]
    clear hcw
    have HXX := Lib.hid hX
    obtain ⟨v1, v2, v3, v4, v5, _⟩ := HV.out
    clear hX
    go_upto_region 8 with (fail)
    have hS8 : (fun wz => wz.cell? ⟨g, 2, none⟩ = some (.int .i64 ti) ∧ wz.cell? ⟨g, 3, none⟩ = some (.int .u32 ts) ∧ wz.cell? ⟨g, 5, none⟩ = some (.int .i64 hi) ∧ wz.cell? ⟨g, 6, none⟩ = some (.int .u32 hs) ∧ wz.cell? ⟨bx, 0, none⟩ = some (.int .i64 xi) ∧ wz.cell? ⟨bx, 1, none⟩ = some (.int .u32 xs)) wa.drew := ⟨c2, c3, c5, c6, k0, k1⟩
    refine wp_region_noPanic ?_
    refine wp_region_held (S := (fun wz => wz.cell? ⟨g, 2, none⟩ = some (.int .i64 ti) ∧ wz.cell? ⟨g, 3, none⟩ = some (.int .u32 ts) ∧ wz.cell? ⟨g, 5, none⟩ = some (.int .i64 hi) ∧ wz.cell? ⟨g, 6, none⟩ = some (.int .u32 hs) ∧ wz.cell? ⟨bx, 0, none⟩ = some (.int .i64 xi) ∧ wz.cell? ⟨bx, 1, none⟩ = some (.int .u32 xs))) (by kernel_rfl) ?_
    change wpAnyH _ _ _ _ _ _ _ _ (World.drew _)
    refine wpAnyH_take (i := 0) (v := ?_) rfl (by kernel_rfl) (by kernel_rfl) (by kernel_rfl) (fun _ _ _ h => h) (Or.inl ⟨by rfl, ?_⟩) hS8 ?_
    case refine_2 => (intro wz hz; go_simp; with_reducible rfl)
    simp only [Act.put, List.getElem_toArray, List.getElem_cons_zero, List.setIfInBounds_toArray, List.set_cons_succ, List.set_cons_zero]
    refine wpAnyH_take (i := 1) (v := ?_) rfl (by kernel_rfl) (by kernel_rfl) (by kernel_rfl) (fun _ _ _ h => h) (Or.inl ⟨by rfl, ?_⟩) hS8 ?_
    case refine_2 => (intro wz hz; go_simp; with_reducible rfl)
    simp only [Act.put, List.getElem_toArray, List.getElem_cons_succ, List.getElem_cons_zero, List.setIfInBounds_toArray, List.set_cons_succ, List.set_cons_zero]
    refine wpAnyH_take (i := 2) (v := ?_) rfl (by kernel_rfl) (by kernel_rfl) (by kernel_rfl) (fun _ _ _ h => h) (Or.inl ⟨by rfl, ?_⟩) hS8 ?_
    case refine_2 => (intro wz hz; go_simp; with_reducible rfl)
    simp only [Act.put, List.getElem_toArray, List.getElem_cons_succ, List.getElem_cons_zero, List.setIfInBounds_toArray, List.set_cons_succ, List.set_cons_zero]
    refine wpAnyH_take (i := 3) (v := ?_) rfl (by kernel_rfl) (by kernel_rfl) (by kernel_rfl) (fun _ _ _ h => h) (Or.inl ⟨by rfl, ?_⟩) hS8 ?_
    case refine_2 => (intro wz hz; go_simp; with_reducible rfl)
    simp only [Act.put, List.getElem_toArray, List.getElem_cons_succ, List.getElem_cons_zero, List.setIfInBounds_toArray, List.set_cons_succ, List.set_cons_zero]
    refine wpAnyH_take (i := 4) (v := ?_) rfl (by kernel_rfl) (by kernel_rfl) (by kernel_rfl) (fun _ _ _ h => h) (Or.inl ⟨by rfl, ?_⟩) hS8 ?_
    case refine_2 => (intro wz hz; obtain ⟨q1, q2, q3, q4, q5, q6⟩ := hz; go_simp; with_reducible rfl)
    simp only [Act.put, List.getElem_toArray, List.getElem_cons_succ, List.getElem_cons_zero, List.setIfInBounds_toArray, List.set_cons_succ, List.set_cons_zero]
    refine wpAnyH_take (i := 5) (v := ?_) rfl (by kernel_rfl) (by kernel_rfl) (by kernel_rfl) (fun _ _ _ h => h) (Or.inl ⟨by rfl, ?_⟩) hS8 ?_
    case refine_2 => (intro wz hz; go_simp; with_reducible rfl)
    simp only [Act.put, List.getElem_toArray, List.getElem_cons_succ, List.getElem_cons_zero, List.setIfInBounds_toArray, List.set_cons_succ, List.set_cons_zero]
    refine wpAnyH_take (i := 6) (v := ?_) rfl (by kernel_rfl) (by kernel_rfl) (by kernel_rfl) (fun _ _ _ h => h) (Or.inl ⟨by rfl, ?_⟩) hS8 ?_
    case refine_2 => (intro wz hz; obtain ⟨q1, q2, q3, q4, q5, q6⟩ := hz; go_simp; with_reducible rfl)
    simp only [Act.put, List.getElem_toArray, List.getElem_cons_succ, List.getElem_cons_zero, List.setIfInBounds_toArray, List.set_cons_succ, List.set_cons_zero]
    refine wpAnyH_take (i := 7) (v := ?_) rfl (by kernel_rfl) (by kernel_rfl) (by kernel_rfl) (fun _ _ _ h => h) (Or.inl ⟨by rfl, ?_⟩) hS8 ?_
    case refine_2 => (intro wz hz; go_simp; with_reducible rfl)
    simp only [Act.put, List.getElem_toArray, List.getElem_cons_succ, List.getElem_cons_zero, List.setIfInBounds_toArray, List.set_cons_succ, List.set_cons_zero]
    refine wpAnyH_take (i := 8) (v := ?_) rfl (by kernel_rfl) (by kernel_rfl) (by kernel_rfl) (fun _ _ _ h => h) (Or.inl ⟨by rfl, ?_⟩) hS8 ?_
    case refine_2 => (intro wz hz; go_simp; with_reducible rfl)
    simp only [Act.put, List.getElem_toArray, List.getElem_cons_succ, List.getElem_cons_zero, List.setIfInBounds_toArray, List.set_cons_succ, List.set_cons_zero]
    refine wpAnyH_take (i := 9) (v := ?_) rfl (by kernel_rfl) (by kernel_rfl) (by kernel_rfl) (fun _ _ _ h => h) (Or.inl ⟨by rfl, ?_⟩) hS8 ?_
    case refine_2 => (intro wz hz; go_simp; with_reducible rfl)
    simp only [Act.put, List.getElem_toArray, List.getElem_cons_succ, List.getElem_cons_zero, List.setIfInBounds_toArray, List.set_cons_succ, List.set_cons_zero]
    refine wpAnyH_take (i := 10) (v := ?_) rfl (by kernel_rfl) (by kernel_rfl) (by kernel_rfl) (fun _ _ _ h => h) (Or.inl ⟨by rfl, ?_⟩) hS8 ?_
    case refine_2 => (intro wz hz; go_simp; with_reducible rfl)
    simp only [Act.put, List.getElem_toArray, List.getElem_cons_succ, List.getElem_cons_zero, List.setIfInBounds_toArray, List.set_cons_succ, List.set_cons_zero]
    refine wpAnyH_take (i := 11) (v := ?_) rfl (by kernel_rfl) (by kernel_rfl) (by kernel_rfl) (fun _ _ _ h => h) (Or.inl ⟨by rfl, ?_⟩) hS8 ?_
    case refine_2 => (intro wz hz; obtain ⟨q1, q2, q3, q4, q5, q6⟩ := hz; go_simp; with_reducible rfl)
    simp only [Act.put, List.getElem_toArray, List.getElem_cons_succ, List.getElem_cons_zero, List.setIfInBounds_toArray, List.set_cons_succ, List.set_cons_zero]
    refine wpAnyH_take (i := 12) (v := ?_) rfl (by kernel_rfl) (by kernel_rfl) (by kernel_rfl) (fun _ _ _ h => h) (Or.inl ⟨by rfl, ?_⟩) hS8 ?_
    case refine_2 => (intro wz hz; go_simp; with_reducible rfl)
    simp only [Act.put, List.getElem_toArray, List.getElem_cons_succ, List.getElem_cons_zero, List.setIfInBounds_toArray, List.set_cons_succ, List.set_cons_zero]
    refine wpAnyH_take (i := 13) (v := ?_) rfl (by kernel_rfl) (by kernel_rfl) (by kernel_rfl) (fun _ _ _ h => h) (Or.inl ⟨by rfl, ?_⟩) hS8 ?_
    case refine_2 => (intro wz hz; go_simp; with_reducible rfl)
    simp only [Act.put, List.getElem_toArray, List.getElem_cons_succ, List.getElem_cons_zero, List.setIfInBounds_toArray, List.set_cons_succ, List.set_cons_zero]
    refine wpAnyH_take (i := 14) (v := ?_) rfl (by kernel_rfl) (by kernel_rfl) (by kernel_rfl) (fun _ _ _ h => h) (Or.inl ⟨by rfl, ?_⟩) hS8 ?_
    case refine_2 => (intro wz hz; go_simp; with_reducible rfl)
    simp only [Act.put, List.getElem_toArray, List.getElem_cons_succ, List.getElem_cons_zero, List.setIfInBounds_toArray, List.set_cons_succ, List.set_cons_zero]
    refine wpAnyH_take (i := 15) (v := ?_) rfl (by kernel_rfl) (by kernel_rfl) (by kernel_rfl) (fun _ _ _ h => h) (Or.inl ⟨by rfl, ?_⟩) hS8 ?_
    case refine_2 => (intro wz hz; go_simp; with_reducible rfl)
    simp only [Act.put, List.getElem_toArray, List.getElem_cons_succ, List.getElem_cons_zero, List.setIfInBounds_toArray, List.set_cons_succ, List.set_cons_zero]
    refine wpAnyH_take (i := 16) (v := ?_) rfl (by kernel_rfl) (by kernel_rfl) (by kernel_rfl) (fun _ _ _ h => h) (Or.inl ⟨by rfl, ?_⟩) hS8 ?_
    case refine_2 => (intro wz hz; go_simp; with_reducible rfl)
    simp only [Act.put, List.getElem_toArray, List.getElem_cons_succ, List.getElem_cons_zero, List.setIfInBounds_toArray, List.set_cons_succ, List.set_cons_zero]
    refine wpAnyH_take (i := 17) (v := ?_) rfl (by kernel_rfl) (by kernel_rfl) (by kernel_rfl) (fun _ _ _ h => h) (Or.inl ⟨by rfl, ?_⟩) hS8 ?_
    case refine_2 => (intro wz hz; go_simp; with_reducible rfl)
    simp only [Act.put, List.getElem_toArray, List.getElem_cons_succ, List.getElem_cons_zero, List.setIfInBounds_toArray, List.set_cons_succ, List.set_cons_zero]
    refine wpAnyH_take (i := 18) (v := ?_) rfl (by kernel_rfl) (by kernel_rfl) (by kernel_rfl) (fun _ _ _ h => h) (Or.inl ⟨by rfl, ?_⟩) hS8 ?_
    case refine_2 => (intro wz hz; obtain ⟨q1, q2, q3, q4, q5, q6⟩ := hz; go_simp; with_reducible rfl)
    simp only [Act.put, List.getElem_toArray, List.getElem_cons_succ, List.getElem_cons_zero, List.setIfInBounds_toArray, List.set_cons_succ, List.set_cons_zero]
    refine wpAnyH_take (i := 19) (v := ?_) rfl (by kernel_rfl) (by kernel_rfl) (by kernel_rfl) (fun _ _ _ h => h) (Or.inl ⟨by rfl, ?_⟩) hS8 ?_
    case refine_2 => (intro wz hz; go_simp; with_reducible rfl)
    simp only [Act.put, List.getElem_toArray, List.getElem_cons_succ, List.getElem_cons_zero, List.setIfInBounds_toArray, List.set_cons_succ, List.set_cons_zero]
    refine wpAnyH_take (i := 20) (v := ?_) rfl (by kernel_rfl) (by kernel_rfl) (by kernel_rfl) (fun _ _ _ h => h) (Or.inl ⟨by rfl, ?_⟩) hS8 ?_
    case refine_2 => (intro wz hz; obtain ⟨q1, q2, q3, q4, q5, q6⟩ := hz; go_simp; with_reducible rfl)
    simp only [Act.put, List.getElem_toArray, List.getElem_cons_succ, List.getElem_cons_zero, List.setIfInBounds_toArray, List.set_cons_succ, List.set_cons_zero]
    refine wpAnyH_take (i := 21) (v := ?_) rfl (by kernel_rfl) (by kernel_rfl) (by kernel_rfl) (fun _ _ _ h => h) (Or.inl ⟨by rfl, ?_⟩) hS8 ?_
    case refine_2 => (intro wz hz; go_simp; with_reducible rfl)
    simp only [Act.put, List.getElem_toArray, List.getElem_cons_succ, List.getElem_cons_zero, List.setIfInBounds_toArray, List.set_cons_succ, List.set_cons_zero]
    refine wpAnyH_take (i := 22) (v := ?_) rfl (by kernel_rfl) (by kernel_rfl) (by kernel_rfl) (fun _ _ _ h => h) (Or.inl ⟨by rfl, ?_⟩) hS8 ?_
    case refine_2 => (intro wz hz; go_simp; with_reducible rfl)
    simp only [Act.put, List.getElem_toArray, List.getElem_cons_succ, List.getElem_cons_zero, List.setIfInBounds_toArray, List.set_cons_succ, List.set_cons_zero]
    refine wpAnyH_take (i := 23) (v := ?_) rfl (by kernel_rfl) (by kernel_rfl) (by kernel_rfl) (fun _ _ _ h => h) (Or.inl ⟨by rfl, ?_⟩) hS8 ?_
    case refine_2 => (intro wz hz; go_simp; with_reducible rfl)
    simp only [Act.put, List.getElem_toArray, List.getElem_cons_succ, List.getElem_cons_zero, List.setIfInBounds_toArray, List.set_cons_succ, List.set_cons_zero]
    refine wpAnyH_take (i := 24) (v := ?_) rfl (by kernel_rfl) (by kernel_rfl) (by kernel_rfl) (fun _ _ _ h => h) (Or.inl ⟨by rfl, ?_⟩) hS8 ?_
    case refine_2 => (intro wz hz; go_simp; with_reducible rfl)
    simp only [Act.put, List.getElem_toArray, List.getElem_cons_succ, List.getElem_cons_zero, List.setIfInBounds_toArray, List.set_cons_succ, List.set_cons_zero]
    refine wpAnyH_take (i := 25) (v := ?_) rfl (by kernel_rfl) (by kernel_rfl) (by kernel_rfl) (fun _ _ _ h => h) (Or.inl ⟨by rfl, ?_⟩) hS8 ?_
    case refine_2 => (intro wz hz; obtain ⟨q1, q2, q3, q4, q5, q6⟩ := hz; go_simp; with_reducible rfl)
    simp only [Act.put, List.getElem_toArray, List.getElem_cons_succ, List.getElem_cons_zero, List.setIfInBounds_toArray, List.set_cons_succ, List.set_cons_zero]
    refine wpAnyH_take (i := 26) (v := ?_) rfl (by kernel_rfl) (by kernel_rfl) (by kernel_rfl) (fun _ _ _ h => h) (Or.inl ⟨by rfl, ?_⟩) hS8 ?_
    case refine_2 => (intro wz hz; go_simp; with_reducible rfl)
    simp only [Act.put, List.getElem_toArray, List.getElem_cons_succ, List.getElem_cons_zero, List.setIfInBounds_toArray, List.set_cons_succ, List.set_cons_zero]
    refine wpAnyH_take (i := 27) (v := ?_) rfl (by kernel_rfl) (by kernel_rfl) (by kernel_rfl) (fun _ _ _ h => h) (Or.inl ⟨by rfl, ?_⟩) hS8 ?_
    case refine_2 => (intro wz hz; go_simp; with_reducible rfl)
    simp only [Act.put, List.getElem_toArray, List.getElem_cons_succ, List.getElem_cons_zero, List.setIfInBounds_toArray, List.set_cons_succ, List.set_cons_zero]
    refine wpAnyH_take (i := 28) (v := ?_) rfl (by kernel_rfl) (by kernel_rfl) (by kernel_rfl) (fun _ _ _ h => h) (Or.inl ⟨by rfl, ?_⟩) hS8 ?_
    case refine_2 => (intro wz hz; go_simp; with_reducible rfl)
    simp only [Act.put, List.getElem_toArray, List.getElem_cons_succ, List.getElem_cons_zero, List.setIfInBounds_toArray, List.set_cons_succ, List.set_cons_zero]
    refine wpAnyH_take (i := 29) (v := ?_) rfl (by kernel_rfl) (by kernel_rfl) (by kernel_rfl) (fun _ _ _ h => h) (Or.inl ⟨by rfl, ?_⟩) hS8 ?_
    case refine_2 => (intro wz hz; go_simp; with_reducible rfl)
    simp only [Act.put, List.getElem_toArray, List.getElem_cons_succ, List.getElem_cons_zero, List.setIfInBounds_toArray, List.set_cons_succ, List.set_cons_zero]
    refine wpAnyH_take (i := 30) (v := ?_) rfl (by kernel_rfl) (by kernel_rfl) (by kernel_rfl) (fun _ _ _ h => h) (Or.inl ⟨by rfl, ?_⟩) hS8 ?_
    case refine_2 => (intro wz hz; go_simp; with_reducible rfl)
    simp only [Act.put, List.getElem_toArray, List.getElem_cons_succ, List.getElem_cons_zero, List.setIfInBounds_toArray, List.set_cons_succ, List.set_cons_zero]
    refine anyH_one (i := 31) (by kernel_rfl) rfl rfl (fun H hH => ?_)
    simp only [List.getElem_toArray, List.getElem_cons_succ, List.getElem_cons_zero]
    go_simp
    refine hH _ _ ⟨(cell_old_sl22 wa _ c2 : (wa.alloc (.cells #[.int .i64 0, .int .u32 0, .int .u16 0] 35)).drew.cell? _ = _), cell_old_sl22 wa _ c3, cell_old_sl22 wa _ c5, cell_old_sl22 wa _ c6, cell_old_sl22 wa _ k0, cell_old_sl22 wa _ k1⟩ ?_
    clear hH H
    refine anyH_one (i := 32) (by kernel_rfl) rfl rfl (fun H hH => ?_)
    simp only [List.getElem_toArray, List.getElem_cons_succ, List.getElem_cons_zero]
    go_simp
    refine hH _ _ ⟨(cell_old_sl22 wa _ c2 : (wa.alloc (.cells #[.int .i64 X, .int .u32 S, .int .u16 P] 35)).drew.cell? _ = _), cell_old_sl22 wa _ c3, cell_old_sl22 wa _ c5, cell_old_sl22 wa _ c6, cell_old_sl22 wa _ k0, cell_old_sl22 wa _ k1⟩ ?_
    clear hH H
    refine wpAnyH_done (by kernel_rfl) ?_ _
    refine NoPanic.normal ?_
    go_simp
    clear hS8 v1 v2 v3 v4 v5
    obtain ⟨wb, hwb⟩ : ∃ wb, wb = (wa.alloc (.cells #[.int .i64 X, .int .u32 S, .int .u16 P] 35)).drew := ⟨_, rfl⟩
    have HWX : Hid (BlkV wb wa.heap.size 35 [.int .i64 X, .int .u32 S, .int .u16 P] ∧ BlkV wb (bx + 1) 35 [.int .i64 0, .int .u32 0, .int .u16 0] ∧ BlkV wb g 38 (wcells ⟨fi, true, ⟨ti, ts, tp⟩, ⟨hi, hs, hp⟩, O⟩ vO) ∧ wb.ownsRow 0 35 3 vO O.length (mcells O) ∧ Below w.heap.size w wb ∧ bx + 2 ≤ wa.heap.size) := Lib.hid (by
      have hb : Below w.heap.size w wb := by rw [hwb]; exact (HWB.out.1.alloc HWB.out.1.size _).trans ⟨rfl, rfl, rfl, Nat.le_refl _, fun _ _ => rfl⟩
      refine ⟨by rw [hwb]; exact BlkV.new wa 35 [.int .i64 X, .int .u32 S, .int .u16 P], ?_, HK.out.1.below hb gl, own_fr HK.out.2.1 (Fr.of_below (F := fun _ => False) hb) (fun k hk e => e), hb, by rw [HBX.out]; exact HWB.out.2⟩
      rw [hwb, HBX.out]
      exact (HWA.out _ _ _ HW9.out.2.1).alloc _)
    obtain ⟨by_, hby⟩ : ∃ by_, by_ = wa.heap.size := ⟨_, rfl⟩
    rw [← hwb, ← hby]
    rw [← hby] at HWX
    clear hwb hby c2 c3 c5 c6 k0 k1 gla gxa HWA HWB HB9 HW9
    obtain ⟨A, c, hvO⟩ := own_formN HWX.out.2.2.2.1
    subst hvO
    obtain ⟨N, hN⟩ : ∃ N, N = O.length := ⟨_, rfl⟩
    have c8 : wb.cell? ⟨g, 8, none⟩ = some (.slice A N c) := by rw [hN]; exact (HWX.out.2.2.1.cell 8).trans rfl
    have f8 := HWX.out.2.2.1.frozen 8
    have y0 : wb.cell? ⟨by_, 0, none⟩ = some (.int .i64 X) := (HWX.out.1.cell 0).trans rfl
    have y1 : wb.cell? ⟨by_, 1, none⟩ = some (.int .u32 S) := (HWX.out.1.cell 1).trans rfl
    have y2 : wb.cell? ⟨by_, 2, none⟩ = some (.int .u16 P) := (HWX.out.1.cell 2).trans rfl
    have glb := HWX.out.2.2.1.lt
    have gyb := HWX.out.1.lt
    go_upto_region 9 with (fail)
    have hz := HWX.out.2.2.2.2.1.size
    have hbxe := HBX.out
    have hbz := HWX.out.2.2.2.2.2
    have hFl : ∀ k, F k → k < w.heap.size := fun k hk => ((HK.out.2.2 k).1 hk).elim (fun e => by rw [e]; exact gl) (fun e => (HK.out.2.1.lt k e).2)
    have hvl : ∀ k, (Value.slice A N c).ownBlock = some k → k < w.heap.size := fun k hk => (HK.out.2.1.lt k (by rw [← hk]; cases A <;> rfl)).2
    have hby1 : by_ ≠ g := by omega
    have hby2 : bx + 1 ≠ g := by omega
    have hby3 : w.heap.size ≤ by_ := by omega
    have hby4 : w.heap.size ≤ bx + 1 := by omega
    have hby5 : bx + 1 < wb.heap.size := HWX.out.2.1.lt
    have HGR := Lib.hid (fun v1 w2 => gr22 (w := wb) (w2 := w2) (v1 := v1) (s := ⟨fi, true, ⟨ti, ts, tp⟩, ⟨hi, hs, hp⟩, O⟩) (y := ⟨X, S, P⟩) (F := F) (N := N) hN (by rw [hN]; exact HWX.out.2.2.1) (by rw [hN]; exact HWX.out.2.2.2.1) (by rw [hN]; exact HK.out.2.2) HWX.out.1 HWX.out.2.1 hby1 hby2 hvl hby3 hby4)
    have HVL : Hid ((Value.slice A N c).ownBlock ≠ some by_) := Lib.hid (fun e => by have := hvl _ e; omega)
    have HFIN := Lib.hid (fun s' wd w9 k ho => fin22 (w := w) (wb := wb) (wd := wd) (w9 := w9) (v := .pointer (some ⟨g, 0, none⟩)) (s' := s') (F := F) (b := bx + 1) k HWX.out.2.2.2.2.1 hFl hby4 hby5 ho)
    have HMW2 : Hid (mapW ⟨fi, true, ⟨ti, ts, tp⟩, ⟨hi, hs, hp⟩, O⟩ ⟨xi, xs, xp⟩ = ⟨fi, true, ⟨ti, ts, tp⟩, ⟨hi, hs, hp⟩, O ++ [⟨X, S, P⟩]⟩) := Lib.hid (by rw [HMW.out, HPL.out, ← HXX.out])
    clear hz hbxe hbz hFl hvl hby1 hby2 hby3 hby4 hby5
    have HOB := Lib.hid (show wb.ownsRow 0 35 3 (.slice A N c) N (mcells O) by rw [hN]; exact HWX.out.2.2.2.1)
    have hNl : N ≤ 1000 := by rw [hN]; exact HL.out
    have HRET : Hid (plcW ⟨fi, true, ⟨ti, ts, tp⟩, ⟨hi, hs, hp⟩, O⟩ ⟨xi, xs, xp⟩ = ⟨X, S, P⟩) := Lib.hid (by rw [HPL.out, ← HXX.out])
    clear hN HK HMW HPL HL HXX HV H8 HWR
    have hr9 : ∀ wz, BlkV wz by_ 35 [.int .i64 X, .int .u32 S, .int .u16 P] → wz.rangeAt by_ 0 [.int .i64 X, .int .u32 S, .int .u16 P] := fun wz h => h.range 0 _ (fun i _ => by rw [Nat.zero_add])
    have hS9 : (fun wz => wz.rangeAt by_ 0 [.int .i64 X, .int .u32 S, .int .u16 P]) wb.drew := hr9 wb.drew HWX.out.1.drew
    have HR9 := Lib.hid hr9
    clear hr9
    refine wp_region_noPanic ?_
    refine wp_region_held (S := (fun wz => wz.rangeAt by_ 0 [.int .i64 X, .int .u32 S, .int .u16 P])) (by kernel_rfl) ?_
    change wpAnyH _ _ _ _ _ _ _ _ (World.drew _)
    refine wpAnyH_take (i := 0) (v := ?_) rfl (by kernel_rfl) (by kernel_rfl) (by kernel_rfl) (fun _ _ _ h => h) (Or.inl ⟨by rfl, ?_⟩) hS9 ?_
    case refine_2 => (intro wz hz; go_simp; with_reducible rfl)
    simp only [Act.put, List.getElem_toArray, List.getElem_cons_zero, List.setIfInBounds_toArray, List.set_cons_succ, List.set_cons_zero]
    refine wpAnyH_take (i := 1) (v := ?_) rfl (by kernel_rfl) (by kernel_rfl) (by kernel_rfl) (fun _ _ _ h => h) (Or.inl ⟨by rfl, ?_⟩) hS9 ?_
    case refine_2 => (intro wz hz; go_simp; with_reducible rfl)
    simp only [Act.put, List.getElem_toArray, List.getElem_cons_succ, List.getElem_cons_zero, List.setIfInBounds_toArray, List.set_cons_succ, List.set_cons_zero]
    refine wpAnyH_take (i := 2) (v := ?_) rfl (by kernel_rfl) (by kernel_rfl) (by kernel_rfl) (fun _ _ _ h => h) (Or.inl ⟨by rfl, ?_⟩) hS9 ?_
    case refine_2 => (intro wz hz; go_simp; with_reducible rfl)
    simp only [Act.put, List.getElem_toArray, List.getElem_cons_succ, List.getElem_cons_zero, List.setIfInBounds_toArray, List.set_cons_succ, List.set_cons_zero]
    refine wpAnyH_take (i := 3) (v := ?_) rfl (by kernel_rfl) (by kernel_rfl) (by kernel_rfl) (fun _ _ _ h => h) (Or.inl ⟨by rfl, ?_⟩) hS9 ?_
    case refine_2 => (intro wz hz; go_simp; with_reducible rfl)
    simp only [Act.put, List.getElem_toArray, List.getElem_cons_succ, List.getElem_cons_zero, List.setIfInBounds_toArray, List.set_cons_succ, List.set_cons_zero]
    refine wpAnyH_take (i := 5) (v := .agg #[.int .i64 X, .int .u32 S, .int .u16 P]) rfl (by kernel_rfl) (by kernel_rfl) (by kernel_rfl) (fun _ _ _ h => h) (Or.inl ⟨by rfl, fun wz hz => ?_⟩) hS9 ?_
    · exact run_ld 35 _ rfl by_ 0 (by rfl) [.int .i64 X, .int .u32 S, .int .u16 P] hz rowM
    simp only [Act.put, List.getElem_toArray, List.getElem_cons_succ, List.getElem_cons_zero, List.setIfInBounds_toArray, List.set_cons_succ, List.set_cons_zero]
    refine anyH_two (i := 4) (j := 6) (by kernel_rfl) rfl rfl rfl rfl (fun H hH => ?_) (fun H hH => ?_)
    · simp only [List.getElem_toArray, List.getElem_cons_succ, List.getElem_cons_zero]
      go_simp
      refine hH _ _ hS9 ?_
      clear hH H
      refine anyH_one (i := 6) (by kernel_rfl) rfl rfl (fun H hH => ?_)
      simp only [List.getElem_toArray, List.getElem_cons_succ, List.getElem_cons_zero]
      go_simp
      have hSa : (fun wz => wz.rangeAt by_ 0 [.int .i64 X, .int .u32 S, .int .u16 P]) (wb.alloc (.cells #[.int .i64 X, .int .u32 S, .int .u16 P] 35)).drew := HR9.out _ (HWX.out.1.alloc _).drew
      refine hH _ _ hSa ?_
      clear hH H
      refine anyH_one (i := 7) (by kernel_rfl) rfl rfl (fun H hH => ?_)
      simp only [List.getElem_toArray, List.getElem_cons_succ, List.getElem_cons_zero]
      refine wp_appV (.tmp 85) (.tmp 87) eMpd (by rfl) 0 (.slice A N c) N (mcells O) (by rfl) ((HOB.out.alloc _).drew) wb.heap.size (by rfl) [.int .i64 X, .int .u32 S, .int .u16 P] rfl (m_one _ _ _) ((BlkV.new wb 35 [.int .i64 X, .int .u32 S, .int .u16 P]).drew) (by omega) (Nat.zero_le _) ?_
      intro v2 w8 hown hg hnew
      obtain ⟨A4, c4, hv4⟩ := own_formN hown
      subst hv4
      have K9 := HGR.out _ w8 hown hg (hnew.imp id (fun e => .inr (by rw [e]; simp)))
      have hb8 : BlkV w8 by_ 35 [.int .i64 X, .int .u32 S, .int .u16 P] := (HWX.out.1.alloc _).drew.grown hg (fun e => HVL.out e.symm)
      obtain ⟨q0, q1, q2⟩ := K9.1
      have HK9 := Lib.hid K9.2
      have hSb : (fun wz => wz.rangeAt by_ 0 [.int .i64 X, .int .u32 S, .int .u16 P]) w8 := HR9.out _ hb8
      refine hH _ _ hSb ?_
      clear hH H K9 hown hg hnew hb8
      refine wpAnyH_take (i := 8) (v := ?_) rfl (by kernel_rfl) (by kernel_rfl) (by kernel_rfl) (fun _ _ _ h => h) (Or.inl ⟨by rfl, ?_⟩) hSb ?_
      case refine_2 => (intro wz hz; go_simp; with_reducible rfl)
      simp only [Act.put, List.getElem_toArray, List.getElem_cons_succ, List.getElem_cons_zero, List.setIfInBounds_toArray, List.set_cons_succ, List.set_cons_zero]
      refine wpAnyH_take (i := 9) (v := ?_) rfl (by kernel_rfl) (by kernel_rfl) (by kernel_rfl) (fun _ _ _ h => h) (Or.inl ⟨by rfl, ?_⟩) hSb ?_
      case refine_2 => (intro wz hz; go_simp; with_reducible rfl)
      simp only [Act.put, List.getElem_toArray, List.getElem_cons_succ, List.getElem_cons_zero, List.setIfInBounds_toArray, List.set_cons_succ, List.set_cons_zero]
      refine anyH_one (i := 10) (by kernel_rfl) rfl rfl (fun H hH => ?_)
      simp only [List.getElem_toArray, List.getElem_cons_succ, List.getElem_cons_zero]
      go_simp
      clear hSb hSa hS9
      obtain ⟨wd, hwd⟩ : ∃ wd, wd = w8.setCell ⟨g, 8, none⟩ (.slice A4 (N + 1) c4) := ⟨_, rfl⟩
      rw [← hwd] at HK9 ⊢
      refine hH _ _ (HR9.out _ HK9.out.2.1) ?_
      clear hH H hwd q0 q1 q2 c8 f8 y0 y1 y2 glb gyb
      refine wpAnyH_done (by kernel_rfl) ?_ _
      refine NoPanic.normal ?_
      go_simp
      have y0 : wd.cell? ⟨by_, 0, none⟩ = some (.int .i64 X) := (HK9.out.2.1.cell 0).trans rfl
      have y1 : wd.cell? ⟨by_, 1, none⟩ = some (.int .u32 S) := (HK9.out.2.1.cell 1).trans rfl
      have y2 : wd.cell? ⟨by_, 2, none⟩ = some (.int .u16 P) := (HK9.out.2.1.cell 2).trans rfl
      go_wp2_with ((refine wpList_st rfl 35 (.tmp 4) (.tmp 91) rfl (bx + 1) 0 [.int .i64 X, .int .u32 S, .int .u16 P] rfl rfl 35 _ HK9.out.2.2 (Nat.le_of_eq rfl) rowM (m_one _ _ _) ?_); intro w9 hB9 ho9; rw [splice_all _ _ (by rfl)] at hB9)
      clear y0 y1 y2
      have HQ9 := Lib.hid (HFIN.out _ _ _ HK9.out.1 ho9)
      rw [← HMW2.out] at HQ9
      rw [HRET.out]
      refine ret_row2 (by rfl) (by rfl) hB9 rowM (by rfl) ?_
      exact ⟨rfl, HQ9⟩
    · simp only [List.getElem_toArray, List.getElem_cons_succ, List.getElem_cons_zero]
      go_simp
      have hSa : (fun wz => wz.rangeAt by_ 0 [.int .i64 X, .int .u32 S, .int .u16 P]) (wb.alloc (.cells #[.int .i64 X, .int .u32 S, .int .u16 P] 35)).drew := HR9.out _ (HWX.out.1.alloc _).drew
      refine hH _ _ hSa ?_
      clear hH H
      have c8b : (wb.alloc (.cells #[.int .i64 X, .int .u32 S, .int .u16 P] 35)).drew.cell? ⟨g, 8, none⟩ = some (.slice A N c) := cell_old_sl22 wb _ c8
      refine anyH_one (i := 4) (by kernel_rfl) rfl rfl (fun H hH => ?_)
      simp only [List.getElem_toArray, List.getElem_cons_succ, List.getElem_cons_zero]
      go_simp
      refine hH _ _ hSa ?_
      clear hH H c8b
      refine anyH_one (i := 7) (by kernel_rfl) rfl rfl (fun H hH => ?_)
      simp only [List.getElem_toArray, List.getElem_cons_succ, List.getElem_cons_zero]
      refine wp_appV (.tmp 85) (.tmp 87) eMpd (by rfl) 0 (.slice A N c) N (mcells O) (by rfl) ((HOB.out.alloc _).drew) wb.heap.size (by rfl) [.int .i64 X, .int .u32 S, .int .u16 P] rfl (m_one _ _ _) ((BlkV.new wb 35 [.int .i64 X, .int .u32 S, .int .u16 P]).drew) (by omega) (Nat.zero_le _) ?_
      intro v2 w8 hown hg hnew
      obtain ⟨A4, c4, hv4⟩ := own_formN hown
      subst hv4
      have K9 := HGR.out _ w8 hown hg (hnew.imp id (fun e => .inr (by rw [e]; simp)))
      have hb8 : BlkV w8 by_ 35 [.int .i64 X, .int .u32 S, .int .u16 P] := (HWX.out.1.alloc _).drew.grown hg (fun e => HVL.out e.symm)
      obtain ⟨q0, q1, q2⟩ := K9.1
      have HK9 := Lib.hid K9.2
      have hSb : (fun wz => wz.rangeAt by_ 0 [.int .i64 X, .int .u32 S, .int .u16 P]) w8 := HR9.out _ hb8
      refine hH _ _ hSb ?_
      clear hH H K9 hown hg hnew hb8
      refine wpAnyH_take (i := 8) (v := ?_) rfl (by kernel_rfl) (by kernel_rfl) (by kernel_rfl) (fun _ _ _ h => h) (Or.inl ⟨by rfl, ?_⟩) hSb ?_
      case refine_2 => (intro wz hz; go_simp; with_reducible rfl)
      simp only [Act.put, List.getElem_toArray, List.getElem_cons_succ, List.getElem_cons_zero, List.setIfInBounds_toArray, List.set_cons_succ, List.set_cons_zero]
      refine wpAnyH_take (i := 9) (v := ?_) rfl (by kernel_rfl) (by kernel_rfl) (by kernel_rfl) (fun _ _ _ h => h) (Or.inl ⟨by rfl, ?_⟩) hSb ?_
      case refine_2 => (intro wz hz; go_simp; with_reducible rfl)
      simp only [Act.put, List.getElem_toArray, List.getElem_cons_succ, List.getElem_cons_zero, List.setIfInBounds_toArray, List.set_cons_succ, List.set_cons_zero]
      refine anyH_one (i := 10) (by kernel_rfl) rfl rfl (fun H hH => ?_)
      simp only [List.getElem_toArray, List.getElem_cons_succ, List.getElem_cons_zero]
      go_simp
      clear hSb hSa hS9
      obtain ⟨wd, hwd⟩ : ∃ wd, wd = w8.setCell ⟨g, 8, none⟩ (.slice A4 (N + 1) c4) := ⟨_, rfl⟩
      rw [← hwd] at HK9 ⊢
      refine hH _ _ (HR9.out _ HK9.out.2.1) ?_
      clear hH H hwd q0 q1 q2 c8 f8 y0 y1 y2 glb gyb
      refine wpAnyH_done (by kernel_rfl) ?_ _
      refine NoPanic.normal ?_
      go_simp
      have y0 : wd.cell? ⟨by_, 0, none⟩ = some (.int .i64 X) := (HK9.out.2.1.cell 0).trans rfl
      have y1 : wd.cell? ⟨by_, 1, none⟩ = some (.int .u32 S) := (HK9.out.2.1.cell 1).trans rfl
      have y2 : wd.cell? ⟨by_, 2, none⟩ = some (.int .u16 P) := (HK9.out.2.1.cell 2).trans rfl
      go_wp2_with ((refine wpList_st rfl 35 (.tmp 4) (.tmp 91) rfl (bx + 1) 0 [.int .i64 X, .int .u32 S, .int .u16 P] rfl rfl 35 _ HK9.out.2.2 (Nat.le_of_eq rfl) rowM (m_one _ _ _) ?_); intro w9 hB9 ho9; rw [splice_all _ _ (by rfl)] at hB9)
      clear y0 y1 y2
      have HQ9 := Lib.hid (HFIN.out _ _ _ HK9.out.1 ho9)
      rw [← HMW2.out] at HQ9
      rw [HRET.out]
      refine ret_row2 (by rfl) (by rfl) hB9 rowM (by rfl) ?_
      exact ⟨rfl, HQ9⟩
end Go.Proofs.Ytjlfokfdieafeaa
