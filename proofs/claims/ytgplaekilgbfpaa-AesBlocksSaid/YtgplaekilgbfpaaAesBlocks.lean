/- AesBlocks's walk: any block ciphered by any key is the document's; another one isn't ciphered alike; of nil the block itself. -/
import Derived.Test.YtgplaekilgbfpaaAesWords
namespace Go.Proofs.Ytgplaekilgbfpaa
open Go.RowKit
set_option linter.unusedVariables false

theorem run_ld {P : Program} {op : Oper} {a : Act} {w : World} (ty : TypeId) (x : Operand) (ho : op.op = .load ty x) (b o : Nat) (hx : a.eval x = .pointer (some ⟨b, o, none⟩)) (cs : List Value) (hc : w.rangeAt b o cs) (hT : RowTy P ty cs.length) :
    (execOp a.eval op).run P w = .ok (.value (.agg cs.toArray)) w := by
  obtain ⟨d, h1, h2, h3⟩ := hT
  unfold execOp
  simp only [ho, hx, Instr.loadAt, Instr.sureAddr, Sem.run_bind, Sem.run_pure, Result.andThen_ok, run_loadVar_mid w b o ty cs d hc h1 h2 h3]
section
variable {P : Program} {md : Region.Mode} {ops : Array Oper} {Q : Exit → Act → World → Prop} {S : World → Prop}
/-- One operation alone may come up, guarded by what is true, under what is held. -/
theorem anyH_oneG {i : Nat} {op : Oper} {fuel : Nat} {listed : Array Bool} {a : Act} {w : World} (hr : Region.ready md ops listed = [i]) (ho : ops[i]? = some op) (hw : Region.wanted op (yielded ops a.tmps) = true)
    (h : ∀ K : Act → World → Prop, (∀ a w, S w → wpAnyH P md ops Q S fuel (listed.setIfInBounds i true) a w → K a w) → op.wp P a w K Q) : wpAnyH P md ops Q S (fuel + 1) listed a w := by
  refine wpAnyH_all hr (by simp) fun j hj => ?_
  simp only [List.mem_singleton] at hj
  subst hj
  unfold wpOp
  simp only [ho]
  rw [if_pos hw]
  exact Or.inl (h _ fun a w h1 h2 => ⟨h1, h2⟩)
end
/-- What is there all along: the key, both blocks, the first one ciphered, the cipher. -/
structure LEnv (w : World) (key a b X : List UInt8) (gx p : Nat) (wr : World) : Prop where
  k : Blk wr w.heap.size 28 key
  a : Blk wr (w.heap.size + 1) 28 a
  b : Blk wr (w.heap.size + 1 + 1) 28 b
  x : Blk wr gx 28 X
  c : BlkV wr p 50 (ciph (kall key))
  bl : Below w.heap.size w wr
theorem LEnv.below {w : World} {key a b X : List UInt8} {gx p : Nat} {wr w' : World} (h : LEnv w key a b X gx p wr) (hb : Below wr.heap.size wr w') : LEnv w key a b X gx p w' :=
  ⟨h.k.below hb h.k.lt, h.a.below hb h.a.lt, h.b.below hb h.b.lt, h.x.below hb h.x.lt, h.c.below hb h.c.lt, h.bl.trans (hb.mono h.bl.size)⟩
theorem blocks_base (w : World) (key a b : List UInt8) : Below w.heap.size w (((w.alloc (.cells (cells key).toArray 28)).alloc (.cells (cells a).toArray 28)).alloc (.cells (cells b).toArray 28)) ∧
    Blk (((w.alloc (.cells (cells key).toArray 28)).alloc (.cells (cells a).toArray 28)).alloc (.cells (cells b).toArray 28)) w.heap.size 28 key ∧
    Blk (((w.alloc (.cells (cells key).toArray 28)).alloc (.cells (cells a).toArray 28)).alloc (.cells (cells b).toArray 28)) (w.heap.size + 1) 28 a ∧
    Blk (((w.alloc (.cells (cells key).toArray 28)).alloc (.cells (cells a).toArray 28)).alloc (.cells (cells b).toArray 28)) (w.heap.size + 1 + 1) 28 b :=
  ⟨(((Below.refl _ _).alloc (Nat.le_refl _) _).alloc (by simp) _).alloc (by simp; omega) _, ((Blk.new _ _ _).alloc _).alloc _, (Blk.new_at _ _ _ _ _ (by simp) rfl).alloc _, Blk.new_at _ _ _ _ _ (by simp) rfl⟩

set_option maxRecDepth 100000 in
set_option maxHeartbeats 2000000 in
theorem aesBlocks_q (key a b X Y : List UInt8) (r : Bool) (w : World) (hk : key.length = 16) (ha : a.length = 16) (hb : b.length = 16) (hX : X = enc (kall key) a) (hY : Y = enc (kall key) b) (hr1 : (X == Y) = r) (hr2 : (a == b) = r) :
    Calls Try.prog 5 #[.agg (cells key).toArray, .agg (cells a).toArray, .agg (cells b).toArray] w fun e w' => e = .returned (.bool true) ∧ Below w.heap.size w w' := by
  have hz := zero16
  obtain ⟨hb0, hk0, ha0, hb00⟩ := blocks_base w key a b
  have HKL : Hid ((cells key).length = 16) := Lib.hid (by rw [length_cells, hk])
  have HAL : Hid ((cells a).length = 16) := Lib.hid (by rw [length_cells, ha])
  have HBL : Hid ((cells b).length = 16) := Lib.hid (by rw [length_cells, hb])
  have hXl : X.length = 16 := by rw [hX]; exact enc_len _ _
  have hYl : Y.length = 16 := by rw [hY]; exact enc_len _ _
  have HXL : Hid ((cells X).length = 16) := Lib.hid (by rw [length_cells, hXl])
  have hZL : (cells Z16).length = 16 := by rw [length_cells, Z16_len]
  have HZL := Lib.hid hZL
  have qX : ∀ w, (Op.equalIn 10000 28 (.agg (cells X).toArray) (.agg (cells X).toArray)).run Try.prog w = .ok true w := fun w => by rw [eq16 X X hXl hXl]; simp
  have qA : ∀ w, (Op.equalIn 10000 28 (.agg (cells a).toArray) (.agg (cells a).toArray)).run Try.prog w = .ok true w := fun w => by rw [eq16 a a ha ha]; simp
  have qXY : ∀ w, (Op.equalIn 10000 28 (.agg (cells X).toArray) (.agg (cells Y).toArray)).run Try.prog w = .ok r w := fun w => by rw [eq16 X Y hXl hYl, hr1]
  have qAB : ∀ w, (Op.equalIn 10000 28 (.agg (cells a).toArray) (.agg (cells b).toArray)).run Try.prog w = .ok r w := fun w => by rw [eq16 a b ha hb, hr2]
  have hrn := fun wx => rnewC_any key wx hk
  have hn := fun wx => new_any key wx hk
  have hba := fun p wx (h : BlkV wx p 50 (ciph (kall key))) => block_some p _ (kall key) a wx ha (kall_len key hk) h
  have hbb := fun p wx (h : BlkV wx p 50 (ciph (kall key))) => block_some p _ (kall key) b wx hb (kall_len key hk) h
  simp only [← hX] at hba
  simp only [← hY] at hbb
  have HRN := Lib.hid hrn
  have HN := Lib.hid hn
  have HBA := Lib.hid hba
  have HBB := Lib.hid hbb
  have HXE := Lib.hid hX
  have HA := Lib.hid ha
  clear hk ha hb hX hY hr1 hr2 hXl hYl hZL hrn hn hba hbb
  have HB0 := Lib.hid hb0
  clear hb0
  go_enter Try.func5, Try.ntmps5
  go_wp2_with (first
    | (go_at_call 6; ((with_reducible refine (alive_any _).mono ?_); rintro e w1 ⟨rfl, hb1⟩; have hk1 := hk0.below hb1 hk0.lt; have ha1 := ha0.below hb1 ha0.lt; have hbk1 := hb00.below hb1 hb00.lt; have hb1w := HB0.out.trans (hb1.mono HB0.out.size)))
    | (with_reducible refine wpList_ld rfl 28 (.tmp 3) rfl w.heap.size 0 rfl (cells key) (hk1.v.range 0 _ (by simp)) (row16 HKL.out) ?_)
    | (go_at_call 13; ((with_reducible refine (HN.out w1).mono ?_); rintro e w2 ⟨p, rfl, hp, hc2, hb2⟩; have hk2 := hk1.below hb2 hk1.lt; have ha2 := ha1.below hb2 ha1.lt; have hbk2 := hbk1.below hb2 hbk1.lt; have hb2w := hb1w.trans (hb2.mono hb1w.size)))
    | (with_reducible refine wpList_ld rfl 28 (.tmp 4) rfl (w.heap.size + 1) 0 rfl (cells a) (ha2.v.range 0 _ (by simp)) (row16 HAL.out) ?_)
    | (go_at_call 14; ((with_reducible refine (HBA.out p w2 hc2).mono ?_); rintro e w3 ⟨rfl, hb3⟩; have hk3 := (hk2.below hb3 hk2.lt).alloc (.cells (cells Z16).toArray 28); have ha3 := (ha2.below hb3 ha2.lt).alloc (.cells (cells Z16).toArray 28); have hbk3 := (hbk2.below hb3 hbk2.lt).alloc (.cells (cells Z16).toArray 28); have hc3 := (hc2.below hb3 hc2.lt).alloc (.cells (cells Z16).toArray 28); have hb3w := (hb2w.trans (hb3.mono hb2w.size)).alloc (by have := hb3.size; have := hb2w.size; omega) (.cells (cells Z16).toArray 28); have hx3 := BlkV.new w3 28 (cells Z16); have hl3 := (hbk2.below hb3 hbk2.lt).lt; have hlc := (hc2.below hb3 hc2.lt).lt))
    | ((with_reducible refine wpList_st rfl 28 (.tmp 8) (.tmp 18) rfl w3.heap.size 0 (cells X) rfl rfl 28 _ hx3 (by rw [HXL.out, HZL.out]; omega) (row16 HXL.out) (cells_one _) ?_); intro w4 hB4 ho4; rw [splice_all _ _ (by rw [HXL.out, HZL.out])] at hB4))
  obtain ⟨gx, hgx⟩ : ∃ g, g = w3.heap.size := ⟨_, rfl⟩
  rw [← hgx] at hB4 ho4 hl3 hlc ⊢
  have hS4 : LEnv w key a b X gx p w4 := ⟨Blk.only hk3 ho4 (by omega), Blk.only ha3 ho4 (by omega), Blk.only hbk3 ho4 (by omega), hB4, hc3.only ho4 (by omega), hb3w.trans (ho4.below (by omega))⟩
  have hS : LEnv w key a b X gx p w4.drew := hS4.below ((Below.refl _ _).drew)
  clear hS4 hk3 ha3 hbk3 hc3 hb3w hx3 hl3 hlc hB4 ho4 hgx hk2 ha2 hbk2 hb2w hc2 hp hk1 ha1 hbk1 hb1w hb1 hb2 hb3 hk0 ha0 hb00 HB0
  refine wp_region_noPanic ?_
  refine wp_region_held (S := LEnv w key a b X gx p) (by kernel_rfl) ?_
  change wpAnyH _ _ _ _ _ _ _ _ (World.drew _)
  generalize w4.drew = w5 at *
  refine wpAnyH_take (i := 0) (v := .agg (cells X).toArray) rfl (by kernel_rfl) (by kernel_rfl) (by kernel_rfl) (fun _ _ _ h => h) (Or.inl ⟨by rfl, fun wz hz => ?_⟩) hS ?_
  · exact run_ld 28 _ rfl gx 0 (by rfl) (cells X) (hz.x.v.range 0 _ (by simp)) (row16 HXL.out)
  simp only [Act.put, List.getElem_toArray, List.getElem_cons_zero, List.setIfInBounds_toArray, List.set_cons_succ, List.set_cons_zero]
  refine wpAnyH_take (i := 1) (v := .agg (cells key).toArray) rfl (by kernel_rfl) (by kernel_rfl) (by kernel_rfl) (fun _ _ _ h => h) (Or.inl ⟨by rfl, fun wz hz => ?_⟩) hS ?_
  · exact run_ld 28 _ rfl w.heap.size 0 (by rfl) (cells key) (hz.k.v.range 0 _ (by simp)) (row16 HKL.out)
  simp only [Act.put, List.getElem_toArray, List.getElem_cons_succ, List.getElem_cons_zero, List.setIfInBounds_toArray, List.set_cons_succ, List.set_cons_zero]
  refine wpAnyH_take (i := 3) (v := .agg (cells a).toArray) rfl (by kernel_rfl) (by kernel_rfl) (by kernel_rfl) (fun _ _ _ h => h) (Or.inl ⟨by rfl, fun wz hz => ?_⟩) hS ?_
  · exact run_ld 28 _ rfl (w.heap.size + 1) 0 (by rfl) (cells a) (hz.a.v.range 0 _ (by simp)) (row16 HAL.out)
  simp only [Act.put, List.getElem_toArray, List.getElem_cons_succ, List.getElem_cons_zero, List.setIfInBounds_toArray, List.set_cons_succ, List.set_cons_zero]
  refine anyH_one (i := 2) (by kernel_rfl) rfl (by rfl) (fun H hH => ?_)
  simp only [List.getElem_toArray, List.getElem_cons_succ, List.getElem_cons_zero]
  go_simp
  refine (HRN.out w5).mono ?_
  rintro e w6 ⟨rp, rgB, rgW, rcW, rfl, hC6, hb6⟩
  have hS6 := hS.below hb6
  refine hH _ _ hS6 ?_
  clear hH H
  refine anyH_one (i := 4) (by kernel_rfl) rfl (by rfl) (fun H hH => ?_)
  simp only [List.getElem_toArray, List.getElem_cons_succ, List.getElem_cons_zero]
  go_simp
  refine (rblock_any rp rgB rgW rcW key a w6 HA.out hC6).mono ?_
  rintro e w7 ⟨rfl, hb7⟩
  have hS7 := hS6.below hb7
  rw [← HXE.out]
  refine hH _ _ hS7 ?_
  clear hH H hC6 hb7 hb6 hS
  refine wpAnyH_take (i := 5) (v := ?_) rfl (by kernel_rfl) (by kernel_rfl) (by kernel_rfl) (fun _ _ _ h => h) (Or.inl ⟨by rfl, ?_⟩) hS7 ?_
  case refine_2 => (intro wz hz; go_simp; with_reducible rfl)
  simp only [Act.put, List.getElem_toArray, List.getElem_cons_succ, List.getElem_cons_zero, List.setIfInBounds_toArray, List.set_cons_succ, List.set_cons_zero]
  refine wpAnyH_take (i := 6) (v := ?_) rfl (by kernel_rfl) (by kernel_rfl) (by kernel_rfl) (fun _ _ _ h => h) (Or.inl ⟨by rfl, ?_⟩) hS7 ?_
  case refine_2 => (intro wz hz; go_simp; with_reducible rfl)
  simp only [Act.put, List.getElem_toArray, List.getElem_cons_succ, List.getElem_cons_zero, List.setIfInBounds_toArray, List.set_cons_succ, List.set_cons_zero]
  refine wpAnyH_take (i := 7) (v := .agg (cells X).toArray) rfl (by kernel_rfl) (by kernel_rfl) (by kernel_rfl) (fun _ _ _ h => h) (Or.inl ⟨by rfl, fun wz hz => ?_⟩) hS7 ?_
  · exact run_ld 28 _ rfl gx 0 (by rfl) (cells X) (hz.x.v.range 0 _ (by simp)) (row16 HXL.out)
  simp only [Act.put, List.getElem_toArray, List.getElem_cons_succ, List.getElem_cons_zero, List.setIfInBounds_toArray, List.set_cons_succ, List.set_cons_zero]
  refine wpAnyH_take (i := 8) (v := ?_) rfl (by kernel_rfl) (by kernel_rfl) (by kernel_rfl) (fun _ _ _ h => h) (Or.inl ⟨by rfl, ?_⟩) hS7 ?_
  case refine_2 => (intro wz hz; go_simp; with_reducible rfl)
  simp only [Act.put, List.getElem_toArray, List.getElem_cons_succ, List.getElem_cons_zero, List.setIfInBounds_toArray, List.set_cons_succ, List.set_cons_zero]
  refine wpAnyH_take (i := 9) (v := .agg (cells b).toArray) rfl (by kernel_rfl) (by kernel_rfl) (by kernel_rfl) (fun _ _ _ h => h) (Or.inl ⟨by rfl, fun wz hz => ?_⟩) hS7 ?_
  · exact run_ld 28 _ rfl (w.heap.size + 1 + 1) 0 (by rfl) (cells b) (hz.b.v.range 0 _ (by simp)) (row16 HBL.out)
  simp only [Act.put, List.getElem_toArray, List.getElem_cons_succ, List.getElem_cons_zero, List.setIfInBounds_toArray, List.set_cons_succ, List.set_cons_zero]
  refine wpAnyH_take (i := 12) (v := .agg (cells a).toArray) rfl (by kernel_rfl) (by kernel_rfl) (by kernel_rfl) (fun _ _ _ h => h) (Or.inl ⟨by rfl, fun wz hz => ?_⟩) hS7 ?_
  · exact run_ld 28 _ rfl (w.heap.size + 1) 0 (by rfl) (cells a) (hz.a.v.range 0 _ (by simp)) (row16 HAL.out)
  simp only [Act.put, List.getElem_toArray, List.getElem_cons_succ, List.getElem_cons_zero, List.setIfInBounds_toArray, List.set_cons_succ, List.set_cons_zero]
  refine wpAnyH_take (i := 13) (v := .agg (cells b).toArray) rfl (by kernel_rfl) (by kernel_rfl) (by kernel_rfl) (fun _ _ _ h => h) (Or.inl ⟨by rfl, fun wz hz => ?_⟩) hS7 ?_
  · exact run_ld 28 _ rfl (w.heap.size + 1 + 1) 0 (by rfl) (cells b) (hz.b.v.range 0 _ (by simp)) (row16 HBL.out)
  simp only [Act.put, List.getElem_toArray, List.getElem_cons_succ, List.getElem_cons_zero, List.setIfInBounds_toArray, List.set_cons_succ, List.set_cons_zero]
  refine wpAnyH_take (i := 14) (v := ?_) rfl (by kernel_rfl) (by kernel_rfl) (by kernel_rfl) (fun _ _ _ h => h) (Or.inl ⟨by rfl, ?_⟩) hS7 ?_
  case refine_2 => (intro wz hz; go_simp; with_reducible rfl)
  simp only [Act.put, List.getElem_toArray, List.getElem_cons_succ, List.getElem_cons_zero, List.setIfInBounds_toArray, List.set_cons_succ, List.set_cons_zero]
  refine anyH_oneG (i := 10) (by kernel_rfl) rfl (by rfl) (fun H hH => ?_)
  simp only [List.getElem_toArray, List.getElem_cons_succ, List.getElem_cons_zero]
  go_simp
  refine (HBB.out p w7 hS7.c).mono ?_
  rintro e w8 ⟨rfl, hb8⟩
  have hS8 := hS7.below hb8
  refine hH _ _ hS8 ?_
  clear hH H hb8
  refine wpAnyH_take (i := 11) (v := ?_) rfl (by kernel_rfl) (by kernel_rfl) (by kernel_rfl) (fun _ _ _ h => h) (Or.inl ⟨by rfl, ?_⟩) hS8 ?_
  case refine_2 => (intro wz hz; go_simp; with_reducible rfl)
  simp only [Act.put, List.getElem_toArray, List.getElem_cons_succ, List.getElem_cons_zero, List.setIfInBounds_toArray, List.set_cons_succ, List.set_cons_zero]
  refine wpAnyH_take (i := 15) (v := ?_) rfl (by kernel_rfl) (by kernel_rfl) (by kernel_rfl) (fun _ _ _ h => h) (Or.inl ⟨by rfl, ?_⟩) hS8 ?_
  case refine_2 => (intro wz hz; go_simp; with_reducible rfl)
  simp only [Act.put, List.getElem_toArray, List.getElem_cons_succ, List.getElem_cons_zero, List.setIfInBounds_toArray, List.set_cons_succ, List.set_cons_zero]
  refine wpAnyH_take (i := 16) (v := ?_) rfl (by kernel_rfl) (by kernel_rfl) (by kernel_rfl) (fun _ _ _ h => h) (Or.inl ⟨by rfl, ?_⟩) hS8 ?_
  case refine_2 => (intro wz hz; go_simp; with_reducible rfl)
  simp only [Act.put, List.getElem_toArray, List.getElem_cons_succ, List.getElem_cons_zero, List.setIfInBounds_toArray, List.set_cons_succ, List.set_cons_zero]
  refine wpAnyH_take (i := 17) (v := ?_) rfl (by kernel_rfl) (by kernel_rfl) (by kernel_rfl) (fun _ _ _ h => h) (Or.inl ⟨by rfl, ?_⟩) hS8 ?_
  case refine_2 => (intro wz hz; go_simp; with_reducible rfl)
  simp only [Act.put, List.getElem_toArray, List.getElem_cons_succ, List.getElem_cons_zero, List.setIfInBounds_toArray, List.set_cons_succ, List.set_cons_zero]
  refine wpAnyH_take (i := 18) (v := ?_) rfl (by kernel_rfl) (by kernel_rfl) (by kernel_rfl) (fun _ _ _ h => h) (Or.inl ⟨by rfl, ?_⟩) hS8 ?_
  case refine_2 => (intro wz hz; go_simp; with_reducible rfl)
  simp only [Act.put, List.getElem_toArray, List.getElem_cons_succ, List.getElem_cons_zero, List.setIfInBounds_toArray, List.set_cons_succ, List.set_cons_zero]
  refine wpAnyH_take (i := 19) (v := .agg (cells a).toArray) rfl (by kernel_rfl) (by kernel_rfl) (by kernel_rfl) (fun _ _ _ h => h) (Or.inl ⟨by rfl, fun wz hz => ?_⟩) hS8 ?_
  · exact run_ld 28 _ rfl (w.heap.size + 1) 0 (by rfl) (cells a) (hz.a.v.range 0 _ (by simp)) (row16 HAL.out)
  simp only [Act.put, List.getElem_toArray, List.getElem_cons_succ, List.getElem_cons_zero, List.setIfInBounds_toArray, List.set_cons_succ, List.set_cons_zero]
  refine wpAnyH_take (i := 21) (v := .agg (cells a).toArray) rfl (by kernel_rfl) (by kernel_rfl) (by kernel_rfl) (fun _ _ _ h => h) (Or.inl ⟨by rfl, fun wz hz => ?_⟩) hS8 ?_
  · exact run_ld 28 _ rfl (w.heap.size + 1) 0 (by rfl) (cells a) (hz.a.v.range 0 _ (by simp)) (row16 HAL.out)
  simp only [Act.put, List.getElem_toArray, List.getElem_cons_succ, List.getElem_cons_zero, List.setIfInBounds_toArray, List.set_cons_succ, List.set_cons_zero]
  refine anyH_oneG (i := 20) (by kernel_rfl) rfl (by rfl) (fun H hH => ?_)
  simp only [List.getElem_toArray, List.getElem_cons_succ, List.getElem_cons_zero]
  go_simp
  refine (block_none a w8 HA.out).mono ?_
  rintro e w9 ⟨rfl, hb9⟩
  have hS9 := hS8.below hb9
  refine hH _ _ hS9 ?_
  clear hH H hb9
  refine wpAnyH_take (i := 22) (v := ?_) rfl (by kernel_rfl) (by kernel_rfl) (by kernel_rfl) (fun _ _ _ h => h) (Or.inl ⟨by rfl, ?_⟩) hS9 ?_
  case refine_2 => (intro wz hz; go_simp; with_reducible rfl)
  simp only [Act.put, List.getElem_toArray, List.getElem_cons_succ, List.getElem_cons_zero, List.setIfInBounds_toArray, List.set_cons_succ, List.set_cons_zero]
  refine wpAnyH_take (i := 23) (v := ?_) rfl (by kernel_rfl) (by kernel_rfl) (by kernel_rfl) (fun _ _ _ h => h) (Or.inl ⟨by rfl, ?_⟩) hS9 ?_
  case refine_2 => (intro wz hz; go_simp; with_reducible rfl)
  simp only [Act.put, List.getElem_toArray, List.getElem_cons_succ, List.getElem_cons_zero, List.setIfInBounds_toArray, List.set_cons_succ, List.set_cons_zero]
  refine wpAnyH_take (i := 24) (v := ?_) rfl (by kernel_rfl) (by kernel_rfl) (by kernel_rfl) (fun _ _ _ h => h) (Or.inl ⟨by rfl, ?_⟩) hS9 ?_
  case refine_2 => (intro wz hz; go_simp; with_reducible rfl)
  simp only [Act.put, List.getElem_toArray, List.getElem_cons_succ, List.getElem_cons_zero, List.setIfInBounds_toArray, List.set_cons_succ, List.set_cons_zero]
  refine wpAnyH_done (by kernel_rfl) ?_ _
  refine NoPanic.normal ?_
  go_wp2
  go_ret
  exact ⟨rfl, hS9.bl⟩
theorem aesBlocks_bs (key a b : List UInt8) (w : World) (hk : key.length = 16) (ha : a.length = 16) (hb : b.length = 16) :
    Calls Try.prog 5 #[.agg (cells key).toArray, .agg (cells a).toArray, .agg (cells b).toArray] w fun e w' => e = .returned (.bool true) ∧ Below w.heap.size w w' := by
  refine aesBlocks_q key a b _ _ (a == b) w hk ha hb rfl rfl ?_ rfl
  by_cases h : a = b
  · subst h; simp
  · have h2 : enc (kall key) a ≠ enc (kall key) b := fun e => h (enc_inj ha hb e)
    rw [beq_false_of_ne h, beq_false_of_ne h2]
end Go.Proofs.Ytgplaekilgbfpaa
