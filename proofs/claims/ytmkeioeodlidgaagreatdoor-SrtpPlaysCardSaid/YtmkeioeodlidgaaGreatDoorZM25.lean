/- Several texts in one: plain words and walks. No statement is proved here. -/
import Derived.Test.YtmkeioeodlidgaaGreatDoorZM24
import Derived.Test.YtmkeioeodlidgaaGreatDoorZM14
import Derived.Test.YtmkeioeodlidgaaGreatDoorZM22
namespace Go.Proofs.YtmkeioeodlidgaaGreatDoor
open List renaming getElem_toArray → xgT, getElem_cons_succ → xgS, getElem_cons_zero → xgZ, setIfInBounds_toArray → xsT, set_cons_succ → xsS, set_cons_zero → xsZ
open Go.RowKit
set_option linter.unusedVariables false

theorem concat2_own (W : World) (A1 A2 : Option Addr) (n1 n2 c1 c2 M : Nat) (p1 p2 BB : List UInt8) (h1 : RdS W A1 n1 c1 p1) (h2 : RdS W A2 n2 c2 p2) (hB : BB = p1 ++ p2) (hM : M = BB.length) (hle : M ≤ 100000) :
 Calls Tryz.prog 53 #[.slice (some ⟨W.heap.size, 0, none⟩) 2 2] (W.alloc (.cells #[.slice A1 n1 c1, .slice A2 n2 c2] 35)) fun e w' => ∃ A' c', e = .returned (.slice A' M c') ∧ BO W w' A' M c' BB := by
 have hf : [p1, p2].flatten = BB := by rw [hB]; simp
 have hfl : [p1, p2].flatten.length = M := by rw [hf, hM]
 refine (concat_any _ 2 2 [p1, p2] _ (parts2 W A1 A2 n1 n2 c1 c2 p1 p2 _ h1 h2) (by omega) (by omega)).mono ?_
 rintro e w' ⟨A', c', rfl, hb⟩
 rw [hfl, hf] at hb
 rw [hfl]
 exact ⟨A', c', rfl, own_mono hb.1 (by rw [← size_alloc]; omega), ((Below.refl _ _).alloc (Nat.le_refl _) _).trans (hb.2.mono (by rw [← size_alloc]; omega))⟩
structure TE (w : World) (g b : Nat) (y : Wy) (A : Option Addr) (n c : Nat) (bs fc : List UInt8) (q : Nat) (wx : World) : Prop where
 way : PWay wx g b y
 rd : RdS wx A n c bs
 fb : Blk wx q 22 fc
 below : Below w.heap.size w wx
theorem TE.on {w wx wy : World} {g b : Nat} {y : Wy} {A : Option Addr} {n c : Nat} {bs fc : List UInt8} {q : Nat} (h : TE w g b y A n c bs fc q wx) (hb : Below wx.heap.size wx wy) : TE w g b y A n c bs fc q wy :=
 ⟨h.way.below hb, h.rd.below hb, h.fb.below hb h.fb.lt, h.below.trans (hb.mono h.below.size)⟩
theorem TE.key {w wx : World} {g b : Nat} {y : Wy} {A : Option Addr} {n c : Nat} {bs fc : List UInt8} {q : Nat} (h : TE w g b y A n c bs fc q wx) (hf : y.fit) : wx.rangeAt g 0 (cells y.key) :=
 h.way.bk.range 0 _ (fun i hi => by
  have hk := (ks_at y hf).1 i hi
  rw [length_cells, hf.1] at hi
  rw [List.getElem?_append_left (by rw [length_cells, Wy.ks_len hf]; omega)]
  exact hk)
theorem PWay.salt {w : World} {g b : Nat} {y : Wy} (h : PWay w g b y) (hf : y.fit) : w.rangeAt g 36 (cells y.salt) :=
 h.bk.range 36 _ (fun i hi => by
  have hk := (ks_at y hf).2 i hi
  rw [length_cells, hf.2.2.1] at hi
  rw [List.getElem?_append_left (by rw [length_cells, Wy.ks_len hf]; omega)]
  exact hk)
set_option maxRecDepth 100000 in
set_option maxHeartbeats 1000000 in
theorem turned15_any (g b : Nat) (y : Wy) (A : Option Addr) (n c : Nat) (bs : List UInt8) (so i : Nat) (w : World) (h : PWay w g b y) (hf : y.fit) (hr : RdS w A n c bs) (h1 : 1 ≤ n) (hn : n ≤ 4000) (hat : at1 bs ≤ n) (hso : so < 4294967296) (hi : i < 281474976710656) :
 Calls Tryz.prog 24 #[.pointer (some ⟨g, 0, none⟩), .slice A n c, .int .u32 (so : Int), .int .i64 (i : Int)] w fun e w' => ∃ A' c', e = .returned (.slice A' n c') ∧ BO w w' A' n c' (turnW y bs (at1 bs) so i) := by
 have hl := hr.len
 have hle := hr.le
 have hmx := hr.max
 have hz16 := zero16
 have HHS := Lib.hid (headSize15_any A n c bs w hr h1 (by omega))
 have HAT := Lib.hid hat
 have HW := Lib.hid h
 have HF := Lib.hid hf
 have HR := Lib.hid hr
 obtain ⟨H, hH⟩ : ∃ H, H = at1 bs := ⟨_, rfl⟩
 rw [← hH] at HHS HAT hat ⊢
 have HSA := Lib.hid (h.salt hf)
 have HSL : Hid ((cells y.salt).length = 14) := Lib.hid (by rw [length_cells, hf.2.2.1])
 have HKL : Hid ((cells y.key).length = 16) := Lib.hid (by rw [length_cells, hf.1])
 have ew : IntKind.u64.wrap (i : Int) = (i : Int) := by rw [IntKind.wrap_u64]; omega
 have hfl := firstC_len y.salt so i hf.2.2.1
 have HFC := Lib.hid (fun W => first_any y.salt so i W hf.2.2.1 hso (by omega))
 have HTL := turnW_len y bs H so i n hl hat
 have HC : Hid (∀ W A c, RdS W A (n - H) c (bs.drop H) → Calls Tryz.prog 54 #[.agg (cells y.key).toArray, .agg (cells (firstC y.salt so i)).toArray, .slice A (n - H) c] W fun e w' => ∃ v, e = .returned v ∧ w'.ownsRow W.heap.size 5 1 v (n - H) (cells (cph y.key (firstC y.salt so i) (bs.drop H))) ∧ Below W.heap.size W w') := Lib.hid (fun W A c hr => cipher_any y.key _ A (n - H) c _ W hf.1 hfl hr (by omega))
 have HCC : Hid (∀ W A1 c1 A2 c2, RdS W A1 H c1 (bs.take H) → RdS W A2 (n - H) c2 (cph y.key (firstC y.salt so i) (bs.drop H)) → Calls Tryz.prog 53 #[.slice (some ⟨W.heap.size, 0, none⟩) 2 2] (W.alloc (.cells #[.slice A1 H c1, .slice A2 (n - H) c2] 35)) fun e w' => ∃ A' c', e = .returned (.slice A' n c') ∧ BO W w' A' n c' (turnW y bs H so i)) := Lib.hid (fun W A1 c1 A2 c2 x1 x2 => concat2_own W A1 A2 H (n - H) c1 c2 n _ _ _ x1 x2 rfl HTL.symm (by omega))
 obtain ⟨TW, hTW⟩ : ∃ x, x = turnW y bs H so i := ⟨_, rfl⟩
 rw [← hTW] at HCC ⊢
 obtain ⟨fc, hfc⟩ : ∃ x, x = firstC y.salt so i := ⟨_, rfl⟩
 rw [← hfc] at HFC HC HCC hfl
 have HFL : Hid ((cells fc).length = 16) := Lib.hid (by rw [length_cells, hfl])
 have HZL : Hid ((cells Z16).length = 16) := Lib.hid (by rw [length_cells, Z16_len])
 obtain ⟨AL, eL, eL2, hrl⟩ := run_lo A n c H (H : Int) rfl hat hle hmx
 have HRL := Lib.hid hrl
 have hhc : H ≤ c := by omega
 have hcm : c ≤ 9223372036854775807 := hr.small.2
 clear h hf hr hl hmx hH hTW hfc hfl HTL hrl
 go_enter Tryz.func24, Tryz.ntmps24
 go_upto_region 3 with (first
  | (go_at_call 51; ((with_reducible refine (HHS.out).mono ?_); rintro e w' ⟨⟨h, rfl, k1, k2, k3⟩, rfl⟩; have eh : H = h := (k1 HAT.out).symm; subst eh; clear k1 k2 k3))
  | (with_reducible refine wpList_ld rfl 23 (.tmp 16) rfl g 36 rfl (cells y.salt) HSA.out (row14 HSL.out) ?_)
  | (go_at_call 52; ((with_reducible refine (HFC.out _).mono ?_); rintro e w1 ⟨rfl, hb1⟩; have HB1 := Lib.hid hb1; have hI1 := BlkV.new_at w1 w1.heap.size 22 (cells Z16) _ rfl rfl; clear hb1))
  | ((with_reducible refine wpList_st rfl 22 (.tmp 10) (.tmp 21) rfl w1.heap.size 0 (cells fc) rfl rfl 22 _ hI1 (by rw [HFL.out, HZL.out]; omega) (row16 HFL.out) (cells_one _) ?_); intro w2 hB2 ho2; rw [splice_all _ _ (by rw [HFL.out, HZL.out])] at hB2; have HB2 := Lib.hid hB2; have HO2 := Lib.hid ho2; clear hB2 ho2))
 have HS2 : Hid (TE w g b y A n c bs fc w1.heap.size w2) := Lib.hid (by
  have hb2 : Below w1.heap.size w1 w2 := ((Below.refl _ _).alloc (Nat.le_refl _) _).trans (HO2.out.below (Nat.le_refl _))
  have hbw := HB1.out.trans (hb2.mono HB1.out.size)
  exact ⟨HW.out.below hbw, HR.out.below hbw, HB2.out, hbw⟩)
 clear HB1 HB2 HO2 HW HR HSA hI1
 refine wp_region_noPanic ?_
 refine wp_region_held (S := fun wx => TE w g b y A n c bs fc w1.heap.size wx) (by kernel_rfl) ?_
 change wpAnyH _ _ _ _ _ _ _ _ (World.drew _)
 obtain ⟨w3, hw3⟩ : ∃ x, x = w2.drew := ⟨_, rfl⟩
 rw [← hw3]
 have hS : TE w g b y A n c bs fc w1.heap.size w3 := hw3 ▸ HS2.out.on (Below.refl _ _).drew
 clear hw3 HS2
 refine wpAnyH_take (i := 0) (v := ?_) rfl (by kernel_rfl) (by kernel_rfl) (by kernel_rfl) (fun _ _ _ h => h) (Or.inl ⟨by rfl, ?_⟩) hS ?_
 case refine_2 => (intro wz hz; go_simp; with_reducible rfl)
 simp only [Act.put, xgT, xgZ, xsT, xsS, xsZ]
 refine wpAnyH_take (i := 1) (v := ?_) rfl (by kernel_rfl) (by kernel_rfl) (by kernel_rfl) (fun _ _ _ h => h) (Or.inl ⟨by rfl, ?_⟩) hS ?_
 case refine_2 => (intro wz hz; go_simp; with_reducible rfl)
 simp only [Act.put, xgT, xgS, xgZ, xsT, xsS, xsZ]
 refine wpAnyH_take (i := 2) (v := ?_) rfl (by kernel_rfl) (by kernel_rfl) (by kernel_rfl) (fun _ _ _ h => h) (Or.inl ⟨by rfl, ?_⟩) hS ?_
 case refine_2 => (intro wz hz; go_simp; with_reducible rfl)
 simp only [Act.put, xgT, xgS, xgZ, xsT, xsS, xsZ]
 refine wpAnyH_take (i := 3) (v := ?_) rfl (by kernel_rfl) (by kernel_rfl) (by kernel_rfl) (fun _ _ _ h => h) (Or.inl ⟨by rfl, ?_⟩) hS ?_
 case refine_2 => (intro wz hz; go_simp; with_reducible rfl)
 simp only [Act.put, xgT, xgS, xgZ, xsT, xsS, xsZ]
 refine wpAnyH_take (i := 4) (v := ?_) rfl (by kernel_rfl) (by kernel_rfl) (by kernel_rfl) (fun _ _ _ h => h) (Or.inl ⟨by rfl, ?_⟩) hS ?_
 case refine_2 => (intro wz hz; go_simp; with_reducible rfl)
 simp only [Act.put, xgT, xgS, xgZ, xsT, xsS, xsZ]
 refine wpAnyH_take (i := 5) (v := ?_) rfl (by kernel_rfl) (by kernel_rfl) (by kernel_rfl) (fun _ _ _ h => h) (Or.inl ⟨by rfl, ?_⟩) hS ?_
 case refine_2 => (intro wz hz; go_simp; with_reducible rfl)
 simp only [Act.put, xgT, xgS, xgZ, xsT, xsS, xsZ]
 refine wpAnyH_take (i := 6) (v := ?_) rfl (by kernel_rfl) (by kernel_rfl) (by kernel_rfl) (fun _ _ _ h => h) (Or.inl ⟨by rfl, ?_⟩) hS ?_
 case refine_2 => (intro wz hz; go_simp; with_reducible rfl)
 simp only [Act.put, xgT, xgS, xgZ, xsT, xsS, xsZ]
 refine wpAnyH_take (i := 7) (v := .agg (cells y.key).toArray) rfl (by kernel_rfl) (by kernel_rfl) (by kernel_rfl) (fun _ _ _ h => h) (Or.inl ⟨by rfl, fun wz hz => ?_⟩) hS ?_
 · (exact run_ld 22 _ rfl g 0 (by rfl) (cells y.key) (hz.key HF.out) (row16 HKL.out))
 simp only [Act.put, xgT, xgS, xgZ, xsT, xsS, xsZ]
 refine wpAnyH_take (i := 8) (v := .agg (cells fc).toArray) rfl (by kernel_rfl) (by kernel_rfl) (by kernel_rfl) (fun _ _ _ h => h) (Or.inl ⟨by rfl, fun wz hz => ?_⟩) hS ?_
 · (exact run_ld 22 _ rfl w1.heap.size 0 (by rfl) (cells fc) (hz.fb.v.range 0 _ (by simp)) (row16 HFL.out))
 simp only [Act.put, xgT, xgS, xgZ, xsT, xsS, xsZ]
 refine wpAnyH_take (i := 9) (v := ?_) rfl (by kernel_rfl) (by kernel_rfl) (by kernel_rfl) (fun _ _ _ h => h) (Or.inl ⟨by rfl, ?_⟩) hS ?_
 case refine_2 => (intro wz hz; go_simp; with_reducible rfl)
 simp only [Act.put, xgT, xgS, xgZ, xsT, xsS, xsZ]
 refine wpAnyH_take (i := 10) (v := ?_) rfl (by kernel_rfl) (by kernel_rfl) (by kernel_rfl) (fun _ _ _ h => h) (Or.inl ⟨by rfl, ?_⟩) hS ?_
 case refine_2 => (intro wz hz; go_simp; with_reducible rfl)
 simp only [Act.put, xgT, xgS, xgZ, xsT, xsS, xsZ]
 refine wpAnyH_take (i := 11) (v := ?_) rfl (by kernel_rfl) (by kernel_rfl) (by kernel_rfl) (fun _ _ _ h => h) (Or.inl ⟨by rfl, ?_⟩) hS ?_
 case refine_2 => (intro wz hz; go_simp; with_reducible rfl)
 simp only [Act.put, xgT, xgS, xgZ, xsT, xsS, xsZ]
 refine anyH_one (i := 12) (by kernel_rfl) rfl rfl (fun HH hH => ?_)
 simp only [xgT, xgS, xgZ]
 go_simp
 refine (HC.out w3 AL (c - H) (HRL.out _ _ hS.rd)).mono ?_
 rintro e w5 ⟨v5, rfl, ho5, hb5⟩
 obtain ⟨A5, c5, hv5⟩ := own_formN ho5
 subst hv5
 have hS5 : TE w g b y A n c bs fc w1.heap.size w5 := hS.on hb5
 have HR5 := Lib.hid (RdS.of_own ho5)
 refine hH _ _ hS5 ?_
 clear hH hS hb5 ho5
 refine anyH_one (i := 13) (by kernel_rfl) rfl rfl (fun HH hH => ?_)
 simp only [xgT, xgS, xgZ]
 go_simp
 have hS6 : TE w g b y A n c bs fc w1.heap.size (w5.alloc (.cells #[.slice A H c, .slice A5 (n - H) c5] 35)) := hS5.on ((Below.refl _ _).alloc (Nat.le_refl _) _)
 refine hH _ _ hS6 ?_
 clear hH
 refine anyH_one (i := 14) (by kernel_rfl) rfl rfl (fun HH hH => ?_)
 simp only [xgT, xgS, xgZ]
 go_simp
 refine (HCC.out w5 A c A5 c5 (hS5.rd.headR H (by omega)) HR5.out).mono ?_
 rintro e w7 ⟨A7, c7, rfl, ho7⟩
 have hS7 : TE w g b y A n c bs fc w1.heap.size w7 := hS5.on ho7.2
 have HO7 : Hid (BO w w7 A7 n c7 TW) := Lib.hid ⟨own_mono ho7.1 hS5.below.size, hS7.below⟩
 refine hH _ _ hS7 ?_
 clear hH hS5 hS6
 refine wpAnyH_take (i := 15) (v := ?_) rfl (by kernel_rfl) (by kernel_rfl) (by kernel_rfl) (fun _ _ _ h => h) (Or.inl ⟨by rfl, ?_⟩) hS7 ?_
 case refine_2 => (intro wz hz; go_simp; with_reducible rfl)
 simp only [Act.put, xgT, xgS, xgZ, xsT, xsS, xsZ]
 refine wpAnyH_done (by kernel_rfl) ?_ _
 refine NoPanic.normal ?_
 go_wp2
 go_ret
 exact ⟨A7, c7, rfl, HO7.out⟩
theorem own_ne2 {w : World} {base base' s s' n n' : Nat} {e e' : TypeId} {v v' : Value} {xs xs' : List Value} (h : w.ownsRow base e s v n xs) (h' : w.ownsRow base' e' s' v' n' xs') (hne : e ≠ e') : ∀ k, v.ownBlock = some k → v'.ownBlock ≠ some k := by
 intro k hk hk'
 rcases h.2 with ⟨rfl, _⟩ | ⟨g, cap, cur, rfl, _, hg, _⟩
 · simp [Value.ownBlock] at hk
 rcases h'.2 with ⟨rfl, _⟩ | ⟨g', cap', cur', rfl, _, hg', _⟩
 · simp [Value.ownBlock] at hk'
 simp [Value.ownBlock] at hk hk'
 subst hk
 subst hk'
 rw [hg] at hg'
 simp at hg'
 exact hne hg'.2
theorem blk_ne {w : World} {g g' : Nat} {e e' : TypeId} {cs cs' : List Value} (h : BlkV w g e cs) (h' : BlkV w g' e' cs') (hne : e ≠ e') : g ≠ g' := by
 rintro rfl
 unfold BlkV at h h'
 rw [h] at h'
 simp at h'
 exact hne h'.2
set_option maxRecDepth 100000 in
theorem rmark15_any (r : Nat) (v : Value) (L : List Int) (x : Int) (w : World) (h : WinF w r v L) (hl : L.length ≤ 1000) (hx : -9223372036854775808 ≤ x ∧ x ≤ 4611686018427387904) (ht : hiL L ≤ 4611686018427387904) :
 Calls Tryz.prog 38 #[.pointer (some ⟨r, 0, none⟩), .int .i64 x] w fun e w' => e = .returned (.bool (frL L x)) ∧ (∃ v', WinF w' r v' (mkL L x) ∧ ∀ k, v'.ownBlock = some k → v.ownBlock = some k ∨ w.heap.size ≤ k) ∧ Fr (fun k => k = r ∨ v.ownBlock = some k) w w' := by
 have hf := rfresh_any 0 r L x w h.rw hl hx ht
 cases hfr : frL L x
 · rw [hfr] at hf
   rw [mkL_not hfr]
   have HF := Lib.hid hf
   have HR := Lib.hid h
   clear h hf hfr
   go_enter Tryz.func38, Tryz.ntmps38
   go_wp2_with (go_at_call 37; ((with_reducible refine (Hid.out HF).mono ?_); rintro e w' ⟨rfl, rfl⟩))
   go_ret
   exact ⟨rfl, ⟨v, HR.out, fun k hk => .inl hk⟩, Fr.refl _ _⟩
 rw [hfr] at hf
 rw [mkL_of hfr]
 have HF := Lib.hid hf
 obtain ⟨A, c, hv⟩ := own_formN h.o
 subst hv
 have hB := h.b
 have hO := h.o
 have hne : (Value.slice A L.length c).ownBlock ≠ some r := own_ne hO hB (by decide)
 have hc : w.cell? ⟨r, 0, none⟩ = some (.slice A L.length c) := (hB.cell 0).trans rfl
 have hrl := hB.lt
 have hB1 := hB.alloc (.cells #[.int .i64 x] 2)
 have hO1 := hO.alloc (.cells #[.int .i64 x] 2)
 have hx1 : (w.alloc (.cells #[.int .i64 x] 2)).cell? (Addr.add ⟨w.heap.size, 0, none⟩ 0) = some (.int .i64 x) := by
  rw [add_lit]
  exact ((BlkV.new w 2 [.int .i64 x]).cell 0).trans rfl
 have HB1 := Lib.hid (And.intro hB1 hO1)
 have HNE := Lib.hid hne
 clear hf hB hO hB1 hO1 h hne
 obtain ⟨n, hn⟩ : ∃ n, n = L.length := ⟨_, rfl⟩
 rw [← hn] at HB1 hl hc HNE
 have HN := Lib.hid hn
 rw [← hn]
 clear hn hfr
 go_enter Tryz.func38, Tryz.ntmps38
 go_wp2_with (first
  | (go_at_call 37; ((with_reducible refine (Hid.out HF).mono ?_); rintro e w' ⟨rfl, rfl⟩))
  | ((with_reducible refine wpList_app1 _ rfl (.tmp 13) (.tmp 15) rfl Tryz.underlying90 i64_inf rfl (by omega) 0 (.slice A n c) n (icells L) rfl HB1.out.2 ⟨w.heap.size, 0, none⟩ 1 rfl (.int .i64 x) hx1 rfl (by omega) (Nat.zero_le _) ?_); intro v2 w2 hown hg hat _; obtain ⟨A2, c2, hv2⟩ := own_formN hown; subst hv2; have hB2 := HB1.out.1.grown hg (fun e => HNE.out e.symm); have hr2 := hB2.frozen 0; have hc2 := hB2.cell 0; simp only [List.getElem?_cons_zero] at hc2; have HS := Lib.hid hB2; have HO := Lib.hid hown; have HG := Lib.hid hg; have HAT := Lib.hid hat; clear hB2 hown hg hat))
 go_ret
 have hB3 := HS.out.set_ 0 (.slice A2 (n + 1) c2)
 have hn2 : (Value.slice A2 (n + 1) c2).ownBlock ≠ some r := own_ne HO.out HS.out (by decide)
 have hO3 : (w2.setCell ⟨r, 0, none⟩ (.slice A2 (n + 1) c2)).ownsRow 0 2 1 (.slice A2 (n + 1) c2) (n + 1) (icells L ++ [.int .i64 x]) := own_at_same HO.out fun k hk => (Only.set w2 r 0 (.slice A2 (n + 1) c2)).block k (fun e => hn2 (by rw [hk, e]))
 have b1 : Fr (fun k => k = r ∨ (Value.slice A n c).ownBlock = some k) w (w.alloc (.cells #[.int .i64 x] 2)) := .of_below ((Below.refl _ _).alloc (Nat.le_refl _) _)
 have b2 := b1.trans (Fr.of_grown (F := fun k => k = r ∨ (Value.slice A n c).ownBlock = some k) HG.out (fun p hp => .inr hp)) (fun i hi => .inl hi)
 refine ⟨rfl, ⟨_, ⟨hB3, ?_⟩, ?_⟩, b2.trans (Fr.of_only (F := fun k => k = r) (Only.set w2 r 0 (.slice A2 (n + 1) c2)) rfl) (fun i hi => .inl (.inl hi))⟩
 · rw [List.length_append, ← HN.out, icells_snoc]; exact hO3
 · intro k hk
   rcases HAT.out with e | e
   · exact .inl (by rw [← e]; exact hk)
   · rw [e] at hk
     injection hk with hk
     right
     have : (w.alloc (.cells #[.int .i64 x] 2)).heap.size = w.heap.size + 1 := by show (w.heap.push _).size = _; simp
     omega
section
variable {w w2 : World} {g : Nat} {y : Wy} {nm ww : Value} {r : Nat → Nat} {v : Nat → Value}
theorem nmC_set (ws : List (Nat × List Int)) (i : Nat) (L : List Int) : nmC (ws.set i ((ws.getD i (0, [])).1, L)) = nmC ws := by
 refine List.ext_getElem? fun j => ?_
 by_cases hj : j < ws.length
 · rw [nmC_at (by simpa using hj), nmC_at hj]
   congr 2
   simp only [List.getD, List.getElem?_set]
   by_cases e : i = j
   · subst e; simp [hj]
   · rw [if_neg e]
 · rw [List.getElem?_eq_none (by rw [nmC_len, List.length_set]; omega), List.getElem?_eq_none (by rw [nmC_len]; omega)]
theorem RWay.mark (h : RWay w g y nm ww r v) {i : Nat} (hi : i < y.ws.length) {v' : Value} {L' : List Int} (hw : WinF w2 (r i) v' L') (hf : Fr (fun k => k = r i ∨ (v i).ownBlock = some k) w w2) (hv : ∀ k, v'.ownBlock = some k → (v i).ownBlock = some k ∨ w.heap.size ≤ k) :
 RWay w2 g { y with ws := y.ws.set i ((y.ws.getD i (0, [])).1, L') } nm ww r (fun j => if j = i then v' else v j) where
 b := h.b.fr hf (fun e => by
   rcases e with e | e
   · exact blk_ne h.b (h.wins i hi).b (by decide) e
   · exact own_ne (h.wins i hi).o h.b (by decide) e)
 n := by
   show w2.ownsRow 0 33 1 nm (y.ws.set i _).length (nmC (y.ws.set i _))
   rw [List.length_set, nmC_set]
   exact own_at_same h.n fun k hk => hf.keep k (h.n.lt k hk).2 (fun e => by
    rcases e with e | e
    · exact own_ne h.n (h.wins i hi).b (by decide) (e ▸ hk)
    · exact own_ne2 h.n (h.wins i hi).o (by decide) k hk e)
 p := by
   show w2.ownsRow 0 _ 1 ww (y.ws.set i _).length (ptC r (y.ws.set i _).length)
   rw [List.length_set]
   exact own_at_same h.p fun k hk => hf.keep k (h.p.lt k hk).2 (fun e => by
    rcases e with e | e
    · exact own_ne h.p (h.wins i hi).b (by decide) (e ▸ hk)
    · exact own_ne2 h.p (h.wins i hi).o (by decide) k hk e)
 wins j hj := by
  have hj' : j < y.ws.length := by simpa using hj
  show WinF w2 (r j) (if j = i then v' else v j) ((y.ws.set i ((y.ws.getD i (0, [])).1, L')).getD j (0, [])).2
  by_cases e : j = i
  · subst e
    rw [if_pos rfl]
    have : ((y.ws.set j ((y.ws.getD j (0, [])).1, L')).getD j (0, [])).2 = L' := by simp [List.getD, hj']
    rw [this]
    exact hw
  · rw [if_neg e]
    have : (y.ws.set i ((y.ws.getD i (0, [])).1, L')).getD j (0, []) = y.ws.getD j (0, []) := by simp [List.getD, Ne.symm e]
    rw [this]
    have hwj := h.wins j hj'
    have ha := h.apart j i hj' hi e
    refine ⟨hwj.b.fr hf (fun q => ?_), own_at_same hwj.o fun k hk => hf.keep k (hwj.o.lt k hk).2 (fun q => ?_)⟩
    · rcases q with q | q
      · exact ha.1 q
      · exact own_ne (h.wins i hi).o hwj.b (by decide) q
    · rcases q with q | q
      · exact own_ne hwj.o (h.wins i hi).b (by decide) (q ▸ hk)
      · exact ha.2 k hk q
 apart a b ha hb hab := by
  have ha' : a < y.ws.length := by simpa using ha
  have hb' : b < y.ws.length := by simpa using hb
  refine ⟨(h.apart a b ha' hb' hab).1, fun k hk => ?_⟩
  show (if b = i then v' else v b).ownBlock ≠ some k
  replace hk : (if a = i then v' else v a).ownBlock = some k := hk
  by_cases ea : a = i
  · rw [if_pos ea] at hk
    rw [if_neg (fun e => hab (ea.trans e.symm))]
    rcases hv k hk with q | q
    · exact (h.apart i b hi hb' (ea ▸ hab)).2 k q
    · intro q2
      have := ((h.wins b hb').o.lt k q2).2
      omega
  · rw [if_neg ea] at hk
    by_cases eb : b = i
    · rw [if_pos eb]
      intro q2
      rcases hv k q2 with q | q
      · exact (h.apart a i ha' hi ea).2 k hk q
      · have := ((h.wins a ha').o.lt k hk).2
        omega
    · rw [if_neg eb]
      exact (h.apart a b ha' hb' hab).2 k hk
theorem RWay.used (h : RWay w g y nm ww r v) (hf : y.fit) (u : Int) : RWay (w.setCell ⟨g, 51, none⟩ (.int .i64 u)) g { y with used := u } nm ww r v := by
 have hl : (cells y.ks).length = 50 := by rw [length_cells, Wy.ks_len hf]
 have hB := h.b.set_ 51 (.int .i64 u)
 rw [List.set_append_right _ _ (by omega), hl] at hB
 have ho := Only.set w g 51 (.int .i64 u)
 have hs : ∀ k, k ≠ g → (w.setCell ⟨g, 51, none⟩ (.int .i64 u)).heap[k]? = w.heap[k]? := fun k hk => ho.block k hk
 exact ⟨hB, own_at_same h.n fun k hk => hs k (fun e => own_ne h.n h.b (by decide) (e ▸ hk)), own_at_same h.p fun k hk => hs k (fun e => own_ne h.p h.b (by decide) (e ▸ hk)),
  fun i hi => ⟨(hs _ (fun e => blk_ne h.b (h.wins i hi).b (by decide) e.symm)).trans (h.wins i hi).b, own_at_same (h.wins i hi).o fun k hk => hs k (fun e => own_ne (h.wins i hi).o h.b (by decide) (e ▸ hk))⟩, h.apart⟩
theorem nmC_more (ws : List (Nat × List Int)) (x : Nat) : nmC (ws ++ [(x, [])]) = nmC ws ++ [.int .u32 (x : Int)] := by simp [nmC, ucells]
theorem ptC_more (r : Nat → Nat) (m q : Nat) : ptC (fun j => if j = m then q else r j) (m + 1) = ptC r m ++ [.pointer (some ⟨q, 0, none⟩)] := by
 unfold ptC
 rw [List.range_succ, List.map_append, List.map_singleton]
 show List.map _ (List.range m) ++ [Value.pointer (some ⟨if m = m then q else r m, 0, none⟩)] = _
 rw [if_pos rfl]
 congr 1
 refine List.map_congr_left fun a ha => ?_
 show Value.pointer (some ⟨if a = m then q else r a, 0, none⟩) = _
 rw [if_neg (by have := List.mem_range.1 ha; omega)]
theorem RWay.more (h : RWay w g y nm ww r v) {x q : Nat} {nm' ww' : Value} (hB : BlkV w2 g 52 (cells y.ks ++ [.int .i64 y.limit, .int .i64 y.used, nm', ww']))
 (hn : w2.ownsRow 0 33 1 nm' (y.ws.length + 1) (nmC y.ws ++ [.int .u32 (x : Int)])) (hp : w2.ownsRow 0 88 1 ww' (y.ws.length + 1) (ptC r y.ws.length ++ [.pointer (some ⟨q, 0, none⟩)]))
 (hw : BlkV w2 q 92 [.slice none 0 0]) (hq : w.heap.size ≤ q) (hf : Fr (fun k => k = g ∨ nm.ownBlock = some k ∨ ww.ownBlock = some k) w w2) :
 RWay w2 g { y with ws := y.ws ++ [(x, [])] } nm' ww' (fun j => if j = y.ws.length then q else r j) (fun j => if j = y.ws.length then .slice none 0 0 else v j) where
 b := hB
 n := by
   show w2.ownsRow 0 33 1 nm' (y.ws ++ [(x, [])]).length (nmC (y.ws ++ [(x, [])]))
   rw [nmC_more, List.length_append]
   exact hn
 p := by
   show w2.ownsRow 0 _ 1 ww' (y.ws ++ [(x, [])]).length (ptC _ (y.ws ++ [(x, [])]).length)
   rw [List.length_append]
   show w2.ownsRow 0 _ 1 ww' (y.ws.length + 1) (ptC _ (y.ws.length + 1))
   rw [ptC_more]
   exact hp
 wins j hj := by
  show WinF w2 (if j = y.ws.length then q else r j) (if j = y.ws.length then .slice none 0 0 else v j) ((y.ws ++ [(x, [])]).getD j (0, [])).2
  by_cases e : j = y.ws.length
  · rw [if_pos e, if_pos e, e]
    have : (y.ws ++ [(x, [])]).getD y.ws.length (0, ([] : List Int)) = (x, []) := by simp [List.getD]
    rw [this]
    exact ⟨hw, World.ownsRow_nil _ _ _ _⟩
  · have hj' : j < y.ws.length := by simp only [List.length_append, List.length_singleton] at hj; omega
    rw [if_neg e, if_neg e]
    have : (y.ws ++ [(x, [])]).getD j (0, ([] : List Int)) = y.ws.getD j (0, []) := by simp [List.getD, List.getElem?_append_left hj']
    rw [this]
    have hwj := h.wins j hj'
    refine ⟨hwj.b.fr hf (fun k => ?_), own_at_same hwj.o fun k hk => hf.keep k (hwj.o.lt k hk).2 (fun k2 => ?_)⟩
    · rcases k with k | k | k
      · exact blk_ne h.b hwj.b (by decide) k.symm
      · exact own_ne h.n hwj.b (by decide) k
      · exact own_ne h.p hwj.b (by decide) k
    · rcases k2 with k2 | k2 | k2
      · exact own_ne hwj.o h.b (by decide) (k2 ▸ hk)
      · exact own_ne2 hwj.o h.n (by decide) k hk k2
      · exact own_ne2 hwj.o h.p (by decide) k hk k2
 apart a b ha hb hab := by
  have ha' : a < y.ws.length + 1 := by simpa using ha
  have hb' : b < y.ws.length + 1 := by simpa using hb
  show (if a = y.ws.length then q else r a) ≠ (if b = y.ws.length then q else r b) ∧ ∀ k, (if a = y.ws.length then Value.slice none 0 0 else v a).ownBlock = some k → (if b = y.ws.length then Value.slice none 0 0 else v b).ownBlock ≠ some k
  by_cases ea : a = y.ws.length
  · have hb2 : b < y.ws.length := by omega
    rw [if_pos ea, if_pos ea, if_neg (by omega), if_neg (by omega)]
    exact ⟨fun e => by have := (h.wins b hb2).b.lt; omega, fun k hk => nomatch hk⟩
  · have ha2 : a < y.ws.length := by omega
    rw [if_neg ea, if_neg ea]
    by_cases eb : b = y.ws.length
    · rw [if_pos eb, if_pos eb]
      exact ⟨fun e => by have := (h.wins a ha2).b.lt; omega, fun k _ hk => nomatch hk⟩
    · rw [if_neg eb, if_neg eb]
      exact h.apart a b ha2 (by omega) hab
end
end Go.Proofs.YtmkeioeodlidgaaGreatDoor
