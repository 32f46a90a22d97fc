/- Contracts of the document's answer of layer 7: the keys of a way. No statement is proved here. -/
import Derived.Test.YtmfceenkndjjoaaKeyR1
namespace Go.Proofs.Ytmfceenkndjjoaa
open Go.RowKit
set_option linter.unusedVariables false

/-- What is there all along ahead of the loop: the master, the keys under way, those that are handed back. -/
structure XEnv (w : World) (M L : List UInt8) (wr : World) : Prop where
  m : Blk wr w.heap.size 25 M
  r : Blk wr (w.heap.size + 1) 32 Z50
  k : Blk wr (w.heap.size + 1 + 1) 32 L
  b : Below w.heap.size w wr
theorem XEnv.below {w : World} {M L : List UInt8} {wr w' : World} (h : XEnv w M L wr) (hb : Below wr.heap.size wr w') : XEnv w M L w' := ⟨h.m.below hb h.m.lt, h.r.below hb h.r.lt, h.k.below hb h.k.lt, h.b.trans (hb.mono h.b.size)⟩
theorem xenv_start (w : World) (M : List UInt8) : XEnv w M Z50 (((w.alloc (Obj.cells (cells M).toArray 25)).alloc (Obj.cells (cells Z50).toArray 32)).alloc (Obj.cells (cells Z50).toArray 32)) :=
  ⟨((Blk.new _ _ _).alloc _).alloc _, (Blk.new_at _ _ _ _ _ (by simp) rfl).alloc _, Blk.new_at _ _ _ _ _ (by simp) rfl, (((Below.refl _ _).alloc (Nat.le_refl _) _).alloc (by simp) _).alloc (by simp; omega) _⟩
/-- .. and in the loop: the pieces that are laid. -/
structure TEnv (w : World) (G gA gB gC : Nat) (a b c L : List UInt8) (wr : World) : Prop where
  r : Blk wr (w.heap.size + 1) 32 Z50
  k : Blk wr G 32 L
  A : ∀ j, j < 16 → wr.cell? ⟨gA, j, none⟩ = some (.int .u8 ((a.getD j 0).toNat : Int))
  B : ∀ j, j < 20 → wr.cell? ⟨gB, j, none⟩ = some (.int .u8 ((b.getD j 0).toNat : Int))
  C : ∀ j, j < 14 → wr.cell? ⟨gC, j, none⟩ = some (.int .u8 ((c.getD j 0).toNat : Int))
  b : Below w.heap.size w wr
  nG : w.heap.size + 1 < G
  nA : G < gA
  nB : G < gB
  nC : G < gC
theorem TEnv.put {w : World} {G gA gB gC : Nat} {a b c L : List UInt8} {wr : World} (h : TEnv w G gA gB gC a b c L wr) (j : Nat) (v : UInt8) : TEnv w G gA gB gC a b c (L.set j v) (wr.setCell ⟨G, j, none⟩ (.int .u8 (v.toNat : Int))) := by
  have ho := Only.set wr G j (.int .u8 (v.toNat : Int))
  have h1 := h.nG; have h2 := h.nA; have h3 := h.nB; have h4 := h.nC
  exact ⟨Blk.only h.r ho (by omega), h.k.set_ j v, cells_only h.A ho (by omega), cells_only h.B ho (by omega), cells_only h.C ho (by omega), h.b.trans (ho.below (by omega)), h1, h2, h3, h4⟩

set_option maxRecDepth 100000 in
set_option maxHeartbeats 4000000 in
theorem rkeys_any (key salt : List UInt8) (f : Nat) (fi : Int) (w : World) (hk : key.length = 16) (hs : salt.length = 14) (hf : f < 250) (hfi : fi = (f : Int)) :
    Calls Try.prog 9 #[.agg (cells (mst key salt)).toArray, .int .u8 fi] w fun e w' => e = .returned (.agg (cells (kys key salt f)).toArray) ∧ Below w.heap.size w w' := by
  have hz := zero50
  have hE0 := xenv_start w (mst key salt)
  have hml := mst_len key salt hk hs
  have w1 : IntKind.u8.wrap (fi + 1) = ((f + 1 : Nat) : Int) := by rw [IntKind.wrap_u8]; omega
  have w2 : IntKind.u8.wrap (fi + 2) = ((f + 2 : Nat) : Int) := by rw [IntKind.wrap_u8]; omega
  have hda : ∀ wx : World, Calls Try.prog 7 #[.agg (cells (mst key salt)).toArray, .int .u8 fi, .int .i64 16] wx fun e w' => ∃ v, e = .returned v ∧ w'.ownsRow wx.heap.size 5 1 v 16 (cells (drv key salt f 16)) ∧ Below wx.heap.size wx w' := fun wx => by
    rw [hfi]; exact rderive_any key salt f 16 16 wx hk hs (by omega) (by omega) rfl
  have hdb : ∀ (wx : World) (L : Int), L = ((f + 1 : Nat) : Int) → Calls Try.prog 7 #[.agg (cells (mst key salt)).toArray, .int .u8 L, .int .i64 20] wx fun e w' => ∃ v, e = .returned v ∧ w'.ownsRow wx.heap.size 5 1 v 20 (cells (drv key salt (f + 1) 20)) ∧ Below wx.heap.size wx w' := fun wx L hL => by
    rw [hL]; exact rderive_any key salt (f + 1) 20 20 wx hk hs (by omega) (by omega) rfl
  have hdc : ∀ (wx : World) (L : Int), L = ((f + 2 : Nat) : Int) → Calls Try.prog 7 #[.agg (cells (mst key salt)).toArray, .int .u8 L, .int .i64 14] wx fun e w' => ∃ v, e = .returned v ∧ w'.ownsRow wx.heap.size 5 1 v 14 (cells (drv key salt (f + 2) 14)) ∧ Below wx.heap.size wx w' := fun wx L hL => by
    rw [hL]; exact rderive_any key salt (f + 2) 14 14 wx hk hs (by omega) (by omega) rfl
  obtain ⟨l1, hl1⟩ : ∃ l : Int, l = ((f + 1 : Nat) : Int) := ⟨_, rfl⟩
  obtain ⟨l2, hl2⟩ : ∃ l : Int, l = ((f + 2 : Nat) : Int) := ⟨_, rfl⟩
  have hdb1 := fun wx => hdb wx l1 hl1
  have hdc1 := fun wx => hdc wx l2 hl2
  rw [← hl1] at w1
  rw [← hl2] at w2
  clear hdb hdc
  obtain ⟨a, ha⟩ : ∃ a, a = drv key salt f 16 := ⟨_, rfl⟩
  obtain ⟨b, hb⟩ : ∃ b, b = drv key salt (f + 1) 20 := ⟨_, rfl⟩
  obtain ⟨c, hc⟩ : ∃ c, c = drv key salt (f + 2) 14 := ⟨_, rfl⟩
  have la : a.length = 16 := by rw [ha, drv_len]
  have lb : b.length = 20 := by rw [hb, drv_len]
  have lc : c.length = 14 := by rw [hc, drv_len]
  have hall : trioR a b c 16 20 14 = kys key salt f := by rw [trioR_all a b c la lb lc, ha, hb, hc]; rfl
  simp only [← ha] at hda
  simp only [← hb] at hdb1
  simp only [← hc] at hdc1
  have hkl := kys_len key salt f
  obtain ⟨K, hK⟩ : ∃ K, K = kys key salt f := ⟨_, rfl⟩
  rw [← hK] at hall hkl ⊢
  obtain ⟨M, hM⟩ : ∃ M, M = mst key salt := ⟨_, rfl⟩
  simp only [← hM] at hda hdb1 hdc1 hE0 hml ⊢
  have hML : (cells M).length = 30 := by rw [length_cells, hml]
  have hKL : (cells K).length = 50 := by rw [length_cells, hkl]
  have hZL : (cells Z50).length = 50 := by rw [length_cells, Z50_len]
  have HML := Lib.hid hML
  have HKL := Lib.hid hKL
  have HZL := Lib.hid hZL
  have HDA := Lib.hid hda
  have HDB := Lib.hid hdb1
  have HDC := Lib.hid hdc1
  have HALL := Lib.hid hall
  clear hda hdb1 hdc1 hl1 hl2 ha hb hc la lb lc hall hkl hK hM hml hML hKL hZL hk hs hf hfi
  go_enter Try.func9, Try.ntmps9
  go_wp2
  refine wp_region_noPanic ?_
  refine wp_region_held (S := XEnv w M Z50) (by kernel_rfl) ?_
  change wpAnyH _ _ _ _ _ _ _ _ (World.drew _)
  have hS : XEnv w M Z50 (((w.alloc (Obj.cells (cells M).toArray 25)).alloc (Obj.cells (cells Z50).toArray 32)).alloc (Obj.cells (cells Z50).toArray 32)).drew := hE0.below ((Below.refl _ _).drew)
  clear hE0
  generalize (((w.alloc (Obj.cells (cells M).toArray 25)).alloc (Obj.cells (cells Z50).toArray 32)).alloc (Obj.cells (cells Z50).toArray 32)).drew = x0 at *
  refine wpAnyH_take (i := 0) (v := .agg (cells M).toArray) rfl (by kernel_rfl) (by kernel_rfl) (by kernel_rfl) (fun _ _ _ h => h) (Or.inl ⟨by rfl, fun wz hz => ?_⟩) hS ?_
  · exact run_ld 25 _ rfl w.heap.size 0 (by rfl) (cells M) (hz.m.v.range 0 _ (by simp)) (row30 HML.out)
  simp only [Act.put, List.getElem_toArray, List.getElem_cons_zero, List.setIfInBounds_toArray, List.set_cons_succ, List.set_cons_zero]
  refine wpAnyH_take (i := 1) (v := ?_) rfl (by kernel_rfl) (by kernel_rfl) (by kernel_rfl) (fun _ _ _ h => h) (Or.inl ⟨by rfl, ?_⟩) hS ?_
  case refine_2 => (intro wz hz; go_simp; with_reducible rfl)
  simp only [Act.put, List.getElem_toArray, List.getElem_cons_succ, List.getElem_cons_zero, List.setIfInBounds_toArray, List.set_cons_succ, List.set_cons_zero]
  refine wpAnyH_take (i := 3) (v := .agg (cells M).toArray) rfl (by kernel_rfl) (by kernel_rfl) (by kernel_rfl) (fun _ _ _ h => h) (Or.inl ⟨by rfl, fun wz hz => ?_⟩) hS ?_
  · exact run_ld 25 _ rfl w.heap.size 0 (by rfl) (cells M) (hz.m.v.range 0 _ (by simp)) (row30 HML.out)
  simp only [Act.put, List.getElem_toArray, List.getElem_cons_succ, List.getElem_cons_zero, List.setIfInBounds_toArray, List.set_cons_succ, List.set_cons_zero]
  refine wpAnyH_take (i := 4) (v := ?_) rfl (by kernel_rfl) (by kernel_rfl) (by kernel_rfl) (fun _ _ _ h => h) (Or.inl ⟨by rfl, ?_⟩) hS ?_
  case refine_2 => (intro wz hz; go_simp; with_reducible rfl)
  simp only [Act.put, List.getElem_toArray, List.getElem_cons_succ, List.getElem_cons_zero, List.setIfInBounds_toArray, List.set_cons_succ, List.set_cons_zero]
  refine wpAnyH_take (i := 5) (v := ?_) rfl (by kernel_rfl) (by kernel_rfl) (by kernel_rfl) (fun _ _ _ h => h) (Or.inl ⟨by rfl, ?_⟩) hS ?_
  case refine_2 => (intro wz hz; go_simp; with_reducible rfl)
  simp only [Act.put, List.getElem_toArray, List.getElem_cons_succ, List.getElem_cons_zero, List.setIfInBounds_toArray, List.set_cons_succ, List.set_cons_zero]
  refine wpAnyH_take (i := 7) (v := .agg (cells M).toArray) rfl (by kernel_rfl) (by kernel_rfl) (by kernel_rfl) (fun _ _ _ h => h) (Or.inl ⟨by rfl, fun wz hz => ?_⟩) hS ?_
  · exact run_ld 25 _ rfl w.heap.size 0 (by rfl) (cells M) (hz.m.v.range 0 _ (by simp)) (row30 HML.out)
  simp only [Act.put, List.getElem_toArray, List.getElem_cons_succ, List.getElem_cons_zero, List.setIfInBounds_toArray, List.set_cons_succ, List.set_cons_zero]
  refine wpAnyH_take (i := 8) (v := ?_) rfl (by kernel_rfl) (by kernel_rfl) (by kernel_rfl) (fun _ _ _ h => h) (Or.inl ⟨by rfl, ?_⟩) hS ?_
  case refine_2 => (intro wz hz; go_simp; with_reducible rfl)
  simp only [Act.put, List.getElem_toArray, List.getElem_cons_succ, List.getElem_cons_zero, List.setIfInBounds_toArray, List.set_cons_succ, List.set_cons_zero]
  refine wpAnyH_take (i := 9) (v := ?_) rfl (by kernel_rfl) (by kernel_rfl) (by kernel_rfl) (fun _ _ _ h => h) (Or.inl ⟨by rfl, ?_⟩) hS ?_
  case refine_2 => (intro wz hz; go_simp; with_reducible rfl)
  simp only [Act.put, List.getElem_toArray, List.getElem_cons_succ, List.getElem_cons_zero, List.setIfInBounds_toArray, List.set_cons_succ, List.set_cons_zero]
  refine anyH_one (i := 2) (by kernel_rfl) rfl rfl (fun H hH => ?_)
  simp only [List.getElem_toArray, List.getElem_cons_succ, List.getElem_cons_zero]
  go_simp
  refine (HDA.out x0).mono ?_
  rintro e x1 ⟨v1, rfl, hown1, hb1⟩
  have hS1 := hS.below hb1
  have hz0 := hS.k.lt
  refine hH _ _ hS1 ?_
  clear hH H hb1 hS
  refine anyH_one (i := 6) (by kernel_rfl) rfl rfl (fun H hH => ?_)
  simp only [List.getElem_toArray, List.getElem_cons_succ, List.getElem_cons_zero]
  go_simp
  refine (HDB.out x1).mono ?_
  rintro e x2 ⟨v2, rfl, hown2, hb2⟩
  have hS2 := hS1.below hb2
  have hown12 := own_below hown1 hb2
  have hz1 := hS1.k.lt
  refine hH _ _ hS2 ?_
  clear hH H hb2 hS1 hown1
  refine anyH_one (i := 10) (by kernel_rfl) rfl rfl (fun H hH => ?_)
  simp only [List.getElem_toArray, List.getElem_cons_succ, List.getElem_cons_zero]
  go_simp
  refine (HDC.out x2).mono ?_
  rintro e x3 ⟨v3, rfl, hown3, hb3⟩
  have hS3 := hS2.below hb3
  have hown13 := own_below hown12 hb3
  have hown23 := own_below hown2 hb3
  have hz2 := hS2.k.lt
  refine hH _ _ hS3 ?_
  clear hH H hb3 hS2 hown12 hown2
  refine wpAnyH_take (i := 11) (v := ?_) rfl (by kernel_rfl) (by kernel_rfl) (by kernel_rfl) (fun _ _ _ h => h) (Or.inl ⟨by rfl, ?_⟩) hS3 ?_
  case refine_2 => (intro wz hz; go_simp; with_reducible rfl)
  simp only [Act.put, List.getElem_toArray, List.getElem_cons_succ, List.getElem_cons_zero, List.setIfInBounds_toArray, List.set_cons_succ, List.set_cons_zero]
  refine wpAnyH_take (i := 12) (v := ?_) rfl (by kernel_rfl) (by kernel_rfl) (by kernel_rfl) (fun _ _ _ h => h) (Or.inl ⟨by rfl, ?_⟩) hS3 ?_
  case refine_2 => (intro wz hz; go_simp; with_reducible rfl)
  simp only [Act.put, List.getElem_toArray, List.getElem_cons_succ, List.getElem_cons_zero, List.setIfInBounds_toArray, List.set_cons_succ, List.set_cons_zero]
  refine wpAnyH_take (i := 13) (v := ?_) rfl (by kernel_rfl) (by kernel_rfl) (by kernel_rfl) (fun _ _ _ h => h) (Or.inl ⟨by rfl, ?_⟩) hS3 ?_
  case refine_2 => (intro wz hz; go_simp; with_reducible rfl)
  simp only [Act.put, List.getElem_toArray, List.getElem_cons_succ, List.getElem_cons_zero, List.setIfInBounds_toArray, List.set_cons_succ, List.set_cons_zero]
  refine wpAnyH_done (by kernel_rfl) ?_ _
  refine NoPanic.normal ?_
  obtain ⟨gA, cA, rfl, hgA, _, kA⟩ := own_rows hown13 (by omega)
  obtain ⟨gB, cB, rfl, hgB, _, kB⟩ := own_rows hown23 (by omega)
  obtain ⟨gC, cC, rfl, hgC, _, kC⟩ := own_rows hown3 (by omega)
  obtain ⟨G, hG⟩ : ∃ G, G = w.heap.size + 1 + 1 := ⟨_, rfl⟩
  have hE : TEnv w G gA gB gC a b c (trioR a b c 0 0 0) x3 := ⟨hS3.r, by rw [trioR_zero, hG]; exact hS3.k, kA, kB, kC, hS3.b, by omega, by omega, by omega, by omega⟩
  rw [← hG]
  clear hS3 hown13 hown23 hown3 kA kB kC hgA hgB hgC hz0 hz1 hz2 hG HDA HDB HDC w1 w2
  go_wp2
  go_loopw [9] (fun vi wr => ∃ i x z : Nat, Hid (x = min i 16 ∧ z = min i 14) ∧ i ≤ 20 ∧ vi = .int .i64 i ∧ TEnv w G gA gB gC a b c (trioR a b c x i z) wr) (fun i _ => 20 - (intOf i).toNat)
  case atStart => exact ⟨0, 0, 0, Lib.hid ⟨rfl, rfl⟩, by omega, rfl, hE⟩
  case round =>
    clear hE
    obtain ⟨i, x, z, HXZ, hi, rfl, hE⟩ := hrel
    by_cases hlt : i < 20
    · have hlen : ∀ L : List UInt8, L.length = 50 → ∀ (wr : World) (j : Nat), TEnv w G gA gB gC a b c L wr → j < 50 → ∃ y : Int, wr.cell? ⟨G, j, none⟩ = some (.int .u8 y) := fun L hL wr j h hj => ⟨_, h.k.cell (by rw [hL]; exact hj)⟩
      by_cases h14 : i < 14
      · have hxi : x = i := by have := HXZ.out; omega
        subst hxi
        have hzx : z = x := by have := HXZ.out; omega
        subst hzx
        have e1 := hE.put z (a.getD z 0)
        rw [trioR_x a b c z z z (by omega)] at e1
        have e2 := e1.put (36 + z) (c.getD z 0)
        rw [trioR_z a b c (z + 1) z z h14] at e2
        have e3 := e2.put (16 + z) (b.getD z 0)
        rw [trioR_y a b c (z + 1) z (z + 1) (by omega)] at e3
        have sA := hE.A z (by omega)
        have sC := e1.C z (by omega)
        have sB := e2.B z (by omega)
        obtain ⟨y1, d1⟩ := hlen _ (trioR_len _ _ _ _ _ _) _ z hE (by omega)
        obtain ⟨y2, d2⟩ := hlen _ (trioR_len _ _ _ _ _ _) _ (36 + z) e1 (by omega)
        obtain ⟨y3, d3⟩ := hlen _ (trioR_len _ _ _ _ _ _) _ (16 + z) e2 (by omega)
        have q1 := hE.k.frozen z
        have q2 := e1.k.frozen (36 + z)
        have q3 := e2.k.frozen (16 + z)
        obtain ⟨va, hva⟩ : ∃ v : Int, v = ((a.getD z 0).toNat : Int) := ⟨_, rfl⟩
        obtain ⟨vb, hvb⟩ : ∃ v : Int, v = ((b.getD z 0).toNat : Int) := ⟨_, rfl⟩
        obtain ⟨vc, hvc⟩ : ∃ v : Int, v = ((c.getD z 0).toNat : Int) := ⟨_, rfl⟩
        rw [← hva] at sA
        simp only [← hva, ← hvb, ← hvc] at e3 sB sC d2 d3 q2 q3
        clear hva hvb hvc e1 e2 hE hlen
        go_wp2
        go_roundw
        case rel => exact ⟨z + 1, z + 1, z + 1, Lib.hid (by omega), by omega, by go_num, e3⟩
        case measure => simp [intOf]; omega
      · obtain rfl : z = 14 := by have := HXZ.out; omega
        by_cases h16 : i < 16
        · have hxi : x = i := by have := HXZ.out; omega
          subst hxi
          have e1 := hE.put x (a.getD x 0)
          rw [trioR_x a b c x x 14 (by omega)] at e1
          have e3 := e1.put (16 + x) (b.getD x 0)
          rw [trioR_y a b c (x + 1) x 14 (by omega)] at e3
          have sA := hE.A x (by omega)
          have sB := e1.B x (by omega)
          obtain ⟨y1, d1⟩ := hlen _ (trioR_len _ _ _ _ _ _) _ x hE (by omega)
          obtain ⟨y3, d3⟩ := hlen _ (trioR_len _ _ _ _ _ _) _ (16 + x) e1 (by omega)
          have q1 := hE.k.frozen x
          have q3 := e1.k.frozen (16 + x)
          obtain ⟨va, hva⟩ : ∃ v : Int, v = ((a.getD x 0).toNat : Int) := ⟨_, rfl⟩
          obtain ⟨vb, hvb⟩ : ∃ v : Int, v = ((b.getD x 0).toNat : Int) := ⟨_, rfl⟩
          rw [← hva] at sA
          simp only [← hva, ← hvb] at e3 sB d3 q3
          clear hva hvb e1 hE hlen
          go_wp2
          go_roundw
          case rel => exact ⟨x + 1, x + 1, 14, Lib.hid (by omega), by omega, by go_num, e3⟩
          case measure => simp [intOf]; omega
        · obtain rfl : x = 16 := by have := HXZ.out; omega
          have e3 := hE.put (16 + i) (b.getD i 0)
          rw [trioR_y a b c 16 i 14 (by omega)] at e3
          have sB := hE.B i (by omega)
          obtain ⟨y3, d3⟩ := hlen _ (trioR_len _ _ _ _ _ _) _ (16 + i) hE (by omega)
          have q3 := hE.k.frozen (16 + i)
          obtain ⟨vb, hvb⟩ : ∃ v : Int, v = ((b.getD i 0).toNat : Int) := ⟨_, rfl⟩
          rw [← hvb] at sB
          simp only [← hvb] at e3
          clear hvb hE hlen
          go_wp2
          go_roundw
          case rel => exact ⟨i + 1, 16, 14, Lib.hid (by omega), by omega, by go_num, e3⟩
          case measure => simp [intOf]; omega
    · obtain rfl : i = 20 := by omega
      obtain rfl : x = 16 := by have := HXZ.out; omega
      obtain rfl : z = 14 := by have := HXZ.out; omega
      rw [HALL.out] at hE
      have hk5 := hE.k
      have hr4 := hE.r
      have hnG := hE.nG
      have hbb := hE.b
      clear hE
      go_wp2_with (first
        | (with_reducible refine wpList_ld rfl 32 (.tmp 5) rfl G 0 rfl (cells K) (hk5.v.range 0 _ (by simp)) (row50 HKL.out) ?_)
        | ((with_reducible refine wpList_st rfl 32 (.tmp 4) (.tmp 50) rfl (w.heap.size + 1) 0 (cells K) rfl rfl 32 _ hr4.v (by rw [HKL.out, HZL.out]; omega) (row50 HKL.out) (cells_one _) ?_); intro x4 hB4 ho4; rw [splice_all _ _ (by rw [HKL.out, HZL.out])] at hB4))
      exact ret_row (by rfl) (by rfl) hB4 (row50 HKL.out) (by rfl) ⟨rfl, hbb.trans (ho4.below (by omega))⟩
end Go.Proofs.Ytmfceenkndjjoaa
