/- Several texts in one: plain words and walks. No statement is proved here. -/
import Derived.Test.YtheefckohnaceaaGreatDoorZM13
namespace Go.Proofs.YtheefckohnaceaaGreatDoor
open Go.RowKit
set_option linter.unusedVariables false

def StG (w0 : World) (g q : Nat) (e : TypeId) (z : List Value) (bs : List UInt8) (w : World) : Prop := g < w0.heap.size ∧ Rdr w g q bs ∧ w0.grownBy w (some g) ∧ BlkV w w0.heap.size e z
theorem StG.start {w0 : World} {g q : Nat} {bs : List UInt8} (h : Rdr w0 g q bs) (e : TypeId) (z : List Value) (C : Array Value) (hC : C = z.toArray) : StG w0 g q e z bs (w0.alloc (.cells C e)) := by
 subst hC
 exact ⟨h.lt, h.alloc _, grown_alloc _ _ _, BlkV.new _ _ _⟩
theorem StG.only {w0 w w' : World} {g q : Nat} {e : TypeId} {z : List Value} {bs bs' : List UInt8} (h : StG w0 g q e z bs w) (hr : Rdr w' g q bs') (ho : Only g w w') : StG w0 g q e z bs' w' :=
 ⟨h.1, hr, grown_then h.2.2.1 ho.grown (fun p hp => .inr (by injection hp with hp; exact hp.symm)), h.2.2.2.only ho (by have := h.1; omega)⟩
theorem StG.grow {w0 w w' : World} {g q : Nat} {e : TypeId} {z : List Value} {bs bs' : List UInt8} (h : StG w0 g q e z bs w) (hr : Rdr w' g q bs') (ho : w.grownBy w' (some g)) : StG w0 g q e z bs' w' :=
 ⟨h.1, hr, grown_then h.2.2.1 ho (fun p hp => .inr (by injection hp with hp; exact hp.symm)), h.2.2.2.grown ho (by have := h.1; intro e; injection e with e; omega)⟩
theorem StG.below {w0 w w' : World} {g q : Nat} {e : TypeId} {z : List Value} {bs : List UInt8} (h : StG w0 g q e z bs w) (hb : Below w.heap.size w w') : StG w0 g q e z bs w' :=
 ⟨h.1, h.2.1.below hb, grown_then h.2.2.1 (grown_of_below hb none) (fun p hp => by cases hp), h.2.2.2.below hb h.2.2.2.lt⟩
theorem StG.over {w0 w w' : World} {g q : Nat} {e : TypeId} {z : List Value} {bs : List UInt8} (h : StG w0 g q e z bs w) (ho : Only w0.heap.size w w') : Rdr w' g q bs ∧ w0.grownBy w' (some g) :=
 ⟨h.2.1.grown ho.grown (fun p hp => by injection hp with hp; have := h.1; omega), grown_then h.2.2.1 ho.grown (fun p hp => .inl (by injection hp with hp; omega))⟩
theorem wordS {w0 w : World} {g q x : Nat} {e : TypeId} {z : List Value} {tl : List UInt8} (hx : x < 4294967296) (h : StG w0 g q e z (beb 4 x ++ tl) w) :
 Calls Tryz.prog 116 #[.pointer (some ⟨g, 0, none⟩)] w fun r w' => r = .returned (.int .u32 (x : Int)) ∧ StG w0 g q e z tl w' :=
 (wordB g q x tl w hx h.2.1).mono fun r w' hh => ⟨hh.1, h.only hh.2.1 hh.2.2⟩
theorem numberS {w0 w : World} {g q x : Nat} {e : TypeId} {z : List Value} {tl : List UInt8} (m : Nat) (mi : Int) (hmi : mi = m) (h1 : 1 ≤ m) (h8 : m ≤ 8) (hx : x < 256 ^ m) (h : StG w0 g q e z (beb m x ++ tl) w) :
 Calls Tryz.prog 117 #[.pointer (some ⟨g, 0, none⟩), .int .i64 mi] w fun r w' => r = .returned (.int .u64 (x : Int)) ∧ StG w0 g q e z tl w' := by
 subst hmi
 exact (numberB g q m x tl w h1 h8 hx h.2.1).mono fun r w' hh => ⟨hh.1, h.only hh.2.1 hh.2.2⟩
theorem zerosI (g q n : Nat) (tl : List UInt8) (w : World) (mi : Int) (hmi : mi = n) (h : Rdr w g q (List.replicate n 0 ++ tl)) :
 Calls Tryz.prog 125 #[.pointer (some ⟨g, 0, none⟩), .int .i64 mi] w fun e w' => e = .returned (.tuple #[]) ∧ Rdr w' g q tl ∧ Only g w w' := by
 subst hmi; exact zerosB g q n tl w h
theorem zerosS {w0 w : World} {g q n : Nat} {e : TypeId} {z : List Value} {tl : List UInt8} (mi : Int) (hmi : mi = n) (h : StG w0 g q e z (List.replicate n 0 ++ tl) w) :
 Calls Tryz.prog 125 #[.pointer (some ⟨g, 0, none⟩), .int .i64 mi] w fun r w' => r = .returned (.tuple #[]) ∧ StG w0 g q e z tl w' := by
 subst hmi
 exact (zerosB g q n tl w h.2.1).mono fun r w' hh => ⟨hh.1, h.only hh.2.1 hh.2.2⟩
theorem bytesS {w0 w : World} {g q : Nat} {e : TypeId} {z : List Value} {bs tl : List UInt8} (mi : Int) (hmi : mi = bs.length) (h : StG w0 g q e z (bs ++ tl) w) :
 Calls Tryz.prog 128 #[.pointer (some ⟨g, 0, none⟩), .int .i64 mi] w fun r w' => ∃ A c, r = .returned (.slice A bs.length c) ∧ RdS w' A bs.length c bs ∧ StG w0 g q e z tl w' :=
 (bytesB g q bs tl w h.2.1 mi hmi).mono fun r w' ⟨A, c, h1, h2, h3, h4, h5⟩ => ⟨A, c, h1, h2, h.only h3 h5⟩
def cRep (x : Rep) : List Value := [.int .u32 (x.so : Int), .int .u8 (x.fr : Int), .int .i32 x.lo, .int .u32 (x.hi : Int), .int .u32 (x.ji : Int), .int .u32 (x.la : Int), .int .u32 (x.de : Int)]
theorem cRep_one (x : Rep) : ∀ v ∈ cRep x, v.oneCell' = true := by intro v hv; simp [cRep] at hv; rcases hv with rfl | rfl | rfl | rfl | rfl | rfl | rfl <;> rfl
abbrev zRep : List Value := [.int .u32 0, .int .u8 0, .int .i32 0, .int .u32 0, .int .u32 0, .int .u32 0, .int .u32 0]
theorem elRep : ElT 102 53 7 := elT (z := .agg #[.int .u32 0, .int .u8 0, .int .i32 0, .int .u32 0, .int .u32 0, .int .u32 0, .int .u32 0]) (by8 := 28) (by kernel_rfl) (by kernel_rfl) (by decide) rfl (by decide)
theorem rowRep {cs : List Value} (h : cs.length = 7) : RowTy Tryz.prog 102 cs.length := by
 rw [h]; exact ⟨_, Tryz.underlying102, rfl, by kernel_rfl⟩
theorem zeroRep (w : World) : (zeroValue 102).run Tryz.prog w = .ok (.agg #[.int .u32 0, .int .u8 0, .int .i32 0, .int .u32 0, .int .u32 0, .int .u32 0, .int .u32 0]) w := by kernel_rfl
def cNam (x : (Nat × List UInt8)) : List Value := [.int .u32 (x.1 : Int), .string (txt x.2)]
theorem cNam_one (x : (Nat × List UInt8)) : ∀ v ∈ cNam x, v.oneCell' = true := by intro v hv; simp [cNam] at hv; rcases hv with rfl | rfl <;> rfl
abbrev zNam : List Value := [.int .u32 0, .string ⟨#[]⟩]
theorem elNam : ElT 62 54 2 := elT (z := .agg #[.int .u32 0, .string ⟨#[]⟩]) (by8 := 24) (by kernel_rfl) (by kernel_rfl) (by decide) rfl (by decide)
theorem rowNam {cs : List Value} (h : cs.length = 2) : RowTy Tryz.prog 62 cs.length := by
 rw [h]; exact ⟨_, Tryz.underlying62, rfl, by kernel_rfl⟩
theorem zeroNam (w : World) : (zeroValue 62).run Tryz.prog w = .ok (.agg #[.int .u32 0, .string ⟨#[]⟩]) w := by kernel_rfl
def cLos (x : (Nat × Nat)) : List Value := [.int .u16 (x.1 : Int), .int .u16 (x.2 : Int)]
theorem cLos_one (x : (Nat × Nat)) : ∀ v ∈ cLos x, v.oneCell' = true := by intro v hv; simp [cLos] at hv; rcases hv with rfl | rfl <;> rfl
abbrev zLos : List Value := [.int .u16 0, .int .u16 0]
theorem elLos : ElT 104 55 2 := elT (z := .agg #[.int .u16 0, .int .u16 0]) (by8 := 4) (by kernel_rfl) (by kernel_rfl) (by decide) rfl (by decide)
theorem rowLos {cs : List Value} (h : cs.length = 2) : RowTy Tryz.prog 104 cs.length := by
 rw [h]; exact ⟨_, Tryz.underlying104, rfl, by kernel_rfl⟩
theorem zeroLos (w : World) : (zeroValue 104).run Tryz.prog w = .ok (.agg #[.int .u16 0, .int .u16 0]) w := by kernel_rfl
def cFir (x : (Nat × Nat)) : List Value := [.int .u32 (x.1 : Int), .int .u8 (x.2 : Int)]
theorem cFir_one (x : (Nat × Nat)) : ∀ v ∈ cFir x, v.oneCell' = true := by intro v hv; simp [cFir] at hv; rcases hv with rfl | rfl <;> rfl
abbrev zFir : List Value := [.int .u32 0, .int .u8 0]
theorem elFir : ElT 106 56 2 := elT (z := .agg #[.int .u32 0, .int .u8 0]) (by8 := 8) (by kernel_rfl) (by kernel_rfl) (by decide) rfl (by decide)
theorem rowFir {cs : List Value} (h : cs.length = 2) : RowTy Tryz.prog 106 cs.length := by
 rw [h]; exact ⟨_, Tryz.underlying106, rfl, by kernel_rfl⟩
theorem zeroFir (w : World) : (zeroValue 106).run Tryz.prog w = .ok (.agg #[.int .u32 0, .int .u8 0]) w := by kernel_rfl
def cSrc (x : Nat) : List Value := [.int .u32 (x : Int)]
theorem cSrc_one (x : Nat) : ∀ v ∈ cSrc x, v.oneCell' = true := by intro v hv; simp [cSrc] at hv; rcases hv with rfl <;> rfl
theorem elSrc : ElT 36 43 1 := elT (z := .int .u32 0) (by8 := 4) (by kernel_rfl) (by kernel_rfl) (by decide) rfl (by decide)
set_option maxRecDepth 100000 in
set_option maxHeartbeats 400000 in
theorem rep_next (g q : Nat) (x : Rep) (tl : List UInt8) (w : World) (hx : x.fit ∧ x.ok) (h : Rdr w g q (repB x ++ tl)) :
 Calls Tryz.prog 119 #[.pointer (some ⟨g, 0, none⟩)] w fun r w' => r = .returned (.agg (cRep x).toArray) ∧ Rdr w' g q tl ∧ w.grownBy w' (some g) := by
 obtain ⟨so, fr, lo, hi, ji, la, de⟩ := x
 obtain ⟨⟨l1, l2, _, l4, l5, l6, l7⟩, h1, h2⟩ := hx
 simp only at l1 l2 l4 l5 l6 l7 h1 h2
 have l3 : lo24 lo < 256 ^ 3 := lo24_lt lo h1 h2
 have l3b := lo24_is lo h1 h2
 have h2 : lo < 8388608 := by omega
 have L3 := Lib.hid l3b
 clear l3b
 have e1 : IntKind.u8.wrap (fr : Int) = (fr : Int) := by rw [IntKind.wrap_u8]; omega
 have hz := zeroRep
 have S0 := Lib.hid (StG.start h 102 zRep #[.int .u32 0, .int .u8 0, .int .i32 0, .int .u32 0, .int .u32 0, .int .u32 0, .int .u32 0] rfl)
 simp only [repB, List.append_assoc] at S0
 generalize lo24 lo = L at S0 l3 L3
 clear h
 go_enter Tryz.func119, Tryz.ntmps119
 go_wp2_with (first
  | (go_at_call 116; ((with_reducible refine (wordS l1 S0.out).mono ?_); rintro e w1 ⟨rfl, hs⟩; have S1 := Lib.hid hs; clear hs))
  | (go_at_call 117; ((with_reducible refine (numberS 1 _ (by omega) (by omega) (by omega) l2 S1.out).mono ?_); rintro e w2 ⟨rfl, hs⟩; have S2 := Lib.hid hs; clear hs))
  | (go_at_call 117; ((with_reducible refine (numberS 3 _ (by omega) (by omega) (by omega) l3 S2.out).mono ?_); rintro e w3 ⟨rfl, hs⟩; have S3 := Lib.hid hs; clear hs))
  | (go_at_call 138; ((with_reducible refine (signed_ok _ lo _ h1 h2 L3.out).mono ?_); rintro e w3b ⟨rfl, rfl⟩))
  | (go_at_call 116; ((with_reducible refine (wordS l4 S3.out).mono ?_); rintro e w4 ⟨rfl, hs⟩; have S4 := Lib.hid hs; clear hs))
  | (go_at_call 116; ((with_reducible refine (wordS l5 S4.out).mono ?_); rintro e w5 ⟨rfl, hs⟩; have S5 := Lib.hid hs; clear hs))
  | (go_at_call 116; ((with_reducible refine (wordS l6 S5.out).mono ?_); rintro e w6 ⟨rfl, hs⟩; have S6 := Lib.hid hs; clear hs))
  | (go_at_call 116; ((with_reducible refine (wordS l7 S6.out).mono ?_); rintro e w7 ⟨rfl, hs⟩; have S7 := Lib.hid hs; clear hs))
  | ((refine wpList_st rfl 102 (.tmp 2) (.tmp 19) rfl w.heap.size 0 (cRep ⟨so, fr, lo, hi, ji, la, de⟩) rfl (by with_unfolding_all rfl) 102 zRep S7.out.2.2.2 (Nat.le_refl 7) (rowRep rfl) (cRep_one _) ?_); intro w9 hB9 ho9; rw [splice_all _ _ (by rfl)] at hB9))
 refine ret_row rfl rfl hB9 (rowRep rfl) rfl ?_
 exact ⟨rfl, S7.out.over ho9⟩

set_option maxRecDepth 100000 in
set_option maxHeartbeats 400000 in
theorem los_next (g q : Nat) (x : (Nat × Nat)) (tl : List UInt8) (w : World) (hx : x.1 < 65536 ∧ x.2 < 65536) (h : Rdr w g q (lossB x ++ tl)) :
 Calls Tryz.prog 124 #[.pointer (some ⟨g, 0, none⟩)] w fun r w' => r = .returned (.agg (cLos x).toArray) ∧ Rdr w' g q tl ∧ w.grownBy w' (some g) := by
 obtain ⟨s, b⟩ := x
 obtain ⟨l1, l2⟩ := hx
 simp only at l1 l2
 have e1 : IntKind.u16.wrap (s : Int) = (s : Int) := by rw [IntKind.wrap_u16]; omega
 have e2 : IntKind.u16.wrap (b : Int) = (b : Int) := by rw [IntKind.wrap_u16]; omega
 have hz := zeroLos
 have S0 := Lib.hid (StG.start h 104 zLos #[.int .u16 0, .int .u16 0] rfl)
 simp only [lossB, List.append_assoc] at S0
 clear h
 go_enter Tryz.func124, Tryz.ntmps124
 go_wp2_with (first
  | (go_at_call 117; ((with_reducible refine (numberS 2 _ (by omega) (by omega) (by omega) l1 S0.out).mono ?_); rintro e w1 ⟨rfl, hs⟩; have S1 := Lib.hid hs; clear hs))
  | (go_at_call 117; ((with_reducible refine (numberS 2 _ (by omega) (by omega) (by omega) l2 S1.out).mono ?_); rintro e w2 ⟨rfl, hs⟩; have S2 := Lib.hid hs; clear hs))
  | ((refine wpList_st rfl 104 (.tmp 2) (.tmp 9) rfl w.heap.size 0 (cLos (s, b)) rfl (by with_unfolding_all rfl) 104 zLos S2.out.2.2.2 (Nat.le_refl 2) (rowLos rfl) (cLos_one _) ?_); intro w9 hB9 ho9; rw [splice_all _ _ (by rfl)] at hB9))
 refine ret_row rfl rfl hB9 (rowLos rfl) rfl ?_
 exact ⟨rfl, S2.out.over ho9⟩

theorem NameTold.yes_of {s : ByteArray} {e : Ending} (h : NameTold s e) (hn : nameP s) : e = .returned (.bool true) := by
 obtain ⟨b, rfl, hb⟩ := h
 rw [hb.2 hn]
theorem zerosBehind_any (t : List UInt8) (w : World) (ht : t.length ≤ 1000) : Calls Tryz.prog 90 #[.string (txt t)] w fun e w' => e = .returned (.int .i64 (zb t.length : Nat)) ∧ w = w' := by
 have hsz : (txt t).size = t.length := by simp [txt, ByteArray.size]
 have e1 : IntKind.i64.wrap (6 + (t.length : Int)) = ((6 + t.length : Nat) : Int) := by rw [IntKind.wrap_i64]; omega
 obtain ⟨n, hn⟩ : ∃ n, n = t.length := ⟨_, rfl⟩
 obtain ⟨s, hs⟩ : ∃ s, s = txt t := ⟨_, rfl⟩
 rw [← hn] at hsz ht e1 ⊢
 rw [← hs] at hsz ⊢
 have e4 : (4 - ((6 + n : Nat) : Int) % 4) = (zb n : Int) := by unfold zb; omega
 generalize 6 + n = m at e1 e4
 generalize zb n = z at e4 ⊢
 clear hn hs
 go_enter Tryz.func90, Tryz.ntmps90
 go_wp2
 go_ret
 exact ⟨rfl, rfl⟩
set_option maxRecDepth 100000 in
set_option maxHeartbeats 400000 in
theorem nam_next (g q : Nat) (x : (Nat × List UInt8)) (tl : List UInt8) (w : World) (hx : x.1 < 4294967296 ∧ nameP (txt x.2)) (h : Rdr w g q (namB x ++ tl)) :
 Calls Tryz.prog 121 #[.pointer (some ⟨g, 0, none⟩)] w fun r w' => r = .returned (.agg (cNam x).toArray) ∧ Rdr w' g q tl ∧ w.grownBy w' (some g) := by
 obtain ⟨s, t⟩ := x
 obtain ⟨l1, hn⟩ := hx
 simp only at l1 hn
 have hN := hn
 obtain ⟨n1, n2, _⟩ := hn
 have hsz : (txt t).size = t.length := by simp [txt, ByteArray.size]
 rw [hsz] at n1 n2
 have l2 : t.length < 256 ^ 1 := by omega
 have HN := Lib.hid hN
 have HSZ := Lib.hid hsz
 obtain ⟨T, hT⟩ : ∃ T, T = t.length := ⟨_, rfl⟩
 have HT := Lib.hid hT
 have HT2 : Hid (t.length ≤ 1000) := Lib.hid (by omega)
 have hz := zeroNam
 have S0 := Lib.hid (StG.start h 62 zNam #[.int .u32 0, .string ⟨#[]⟩] rfl)
 simp only [namB, List.append_assoc] at S0
 clear h
 go_enter Tryz.func121, Tryz.ntmps121
 go_wp2_with (first
  | (go_at_call 116; ((with_reducible refine (wordS l1 S0.out).mono ?_); rintro e w1 ⟨rfl, hs⟩; have S1 := Lib.hid hs; clear hs))
  | (go_at_call 117; ((with_reducible refine (numberS 1 _ (by omega) (by omega) (by omega) (show 1 < 256 ^ 1 by omega) S1.out).mono ?_); rintro e w2 ⟨rfl, hs⟩; have S2 := Lib.hid hs; clear hs))
  | (go_at_call 41; ((with_reducible refine (refuse_no _ _ _ ?_).mono ?_); (first | rfl | simp); rintro e wx ⟨rfl, rfl⟩))
  | (go_at_call 117; ((with_reducible refine (numberS 1 _ (by omega) (by omega) (by omega) l2 S2.out).mono ?_); rintro e w3 ⟨rfl, hs⟩; have S3 := Lib.hid hs; clear hs))
  | (go_at_call 128; ((with_reducible refine (bytesS _ (by first | rfl | omega) S3.out).mono ?_); rintro e w4 ⟨A4, c4, rfl, hr4, hs⟩; have S4 := Lib.hid hs; have v1 := run_conv hr4 32 9 5 Tryz.underlying32 Tryz.underlying5 Tryz.underlying9; clear hs hr4))
  | (go_at_call 71; ((with_reducible refine (isname_any _ _).mono ?_); rintro e w5 ⟨hq, hb⟩; obtain rfl := hq.yes_of HN.out; have S5 := Lib.hid (S4.out.below hb); clear hq hb v1))
  | (go_at_call 90; ((with_reducible refine (zerosBehind_any t _ HT2.out).mono ?_); rintro e wy ⟨rfl, rfl⟩))
  | (go_at_call 125; ((with_reducible refine (zerosS _ (by first | rfl | omega) S5.out).mono ?_); rintro e w6 ⟨rfl, hs⟩; have S6 := Lib.hid hs; clear hs))
  | ((refine wpList_st rfl 62 (.tmp 2) (.tmp 27) rfl w.heap.size 0 (cNam (s, t)) rfl (by with_unfolding_all rfl) 62 zNam S6.out.2.2.2 (Nat.le_refl 2) (rowNam rfl) (cNam_one _) ?_); intro w9 hB9 ho9; rw [splice_all _ _ (by rfl)] at hB9))
 refine ret_row rfl rfl hB9 (rowNam rfl) rfl ?_
 exact ⟨rfl, S6.out.over ho9⟩

set_option maxRecDepth 100000 in
set_option maxHeartbeats 400000 in
theorem fir_next (g q : Nat) (x : (Nat × Nat)) (tl : List UInt8) (w : World) (hx : x.1 < 4294967296 ∧ x.2 < 256) (h : Rdr w g q (firB x ++ tl)) :
 Calls Tryz.prog 127 #[.pointer (some ⟨g, 0, none⟩)] w fun r w' => r = .returned (.agg (cFir x).toArray) ∧ Rdr w' g q tl ∧ w.grownBy w' (some g) := by
 obtain ⟨s, b⟩ := x
 obtain ⟨l1, l2⟩ := hx
 simp only at l1 l2
 have e1 : IntKind.u8.wrap (b : Int) = (b : Int) := by rw [IntKind.wrap_u8]; omega
 have hz := zeroFir
 have S0 := Lib.hid (StG.start h 106 zFir #[.int .u32 0, .int .u8 0] rfl)
 simp only [firB, List.append_assoc] at S0
 clear h
 go_enter Tryz.func127, Tryz.ntmps127
 go_wp2_with (first
  | (go_at_call 116; ((with_reducible refine (wordS l1 S0.out).mono ?_); rintro e w1 ⟨rfl, hs⟩; have S1 := Lib.hid hs; clear hs))
  | (go_at_call 117; ((with_reducible refine (numberS 1 _ (by omega) (by omega) (by omega) l2 S1.out).mono ?_); rintro e w2 ⟨rfl, hs⟩; have S2 := Lib.hid hs; clear hs))
  | ((refine wpList_st rfl 106 (.tmp 3) (.tmp 9) rfl w2.heap.size 0 (cFir (s, b)) rfl (by with_unfolding_all rfl) 106 zFir (BlkV.new w2 _ _) (Nat.le_refl 2) (rowFir rfl) (cFir_one _) ?_); intro w3 hB3 ho3; rw [splice_all _ _ (by rfl)] at hB3; have S3 := Lib.hid (S2.out.below (((Below.refl _ _).alloc (Nat.le_refl _) _).trans (ho3.below (Nat.le_refl _)))); have B3 := Lib.hid hB3; have R3 := Lib.hid (show Rdr w3 g q (List.replicate 3 0 ++ tl) from S3.out.2.1); clear hB3 ho3)
  | (go_at_call 125; ((with_reducible refine (zerosI g q 3 tl _ _ (by omega) R3.out).mono ?_); rintro e w4 ⟨rfl, hr4, ho4⟩; have S4 := Lib.hid (S3.out.only hr4 ho4); have B4 := Lib.hid (B3.out.only ho4 (by have := S2.out.1; have := S2.out.2.2.2.lt; omega)); clear hr4 ho4))
  | (with_reducible refine wpList_ld rfl 106 (.tmp 3) rfl w2.heap.size 0 rfl (cFir (s, b)) (B4.out.range 0 _ (fun i _ => by rw [Nat.zero_add])) (rowFir rfl) ?_)
  | ((refine wpList_st rfl 106 (.tmp 2) (.tmp 12) rfl w.heap.size 0 (cFir (s, b)) rfl rfl 106 zFir S4.out.2.2.2 (Nat.le_refl 2) (rowFir rfl) (cFir_one _) ?_); intro w9 hB9 ho9; rw [splice_all _ _ (by rfl)] at hB9))
 refine ret_row rfl rfl hB9 (rowFir rfl) rfl ?_
 exact ⟨rfl, S4.out.over ho9⟩
set_option maxRecDepth 100000 in
set_option maxHeartbeats 400000 in
theorem rep_list (g q n : Nat) (L : List Rep) (tl : List UInt8) (w : World) (hn : L.length = n) (h16 : n ≤ 16) (hL : ∀ x ∈ L, x.fit ∧ x.ok) (h : Rdr w g q (L.flatMap repB ++ tl)) :
 Calls Tryz.prog 118 #[.int .i64 (n : Int), .func (.func 119) #[.pointer (some ⟨g, 0, none⟩)] #[]] w fun r w' => ∃ A c, r = .returned (.slice A n c) ∧ w'.ownsRow w.heap.size 102 7 (.slice A n c) n (L.flatMap cRep) ∧ Rdr w' g q tl ∧ w.grownBy w' (some g) := by
 have H0 := Lib.hid h
 have HF := Lib.hid hL
 have HN := Lib.hid hn
 have hg := h.lt
 clear h hL hn
 go_enter Tryz.func118, Tryz.ntmps118
 go_wp2_with (go_at_call 41; ((with_reducible refine (refuse_no _ _ _ ?_).mono ?_); (first | rfl | (simp; omega)); rintro e wx ⟨rfl, rfl⟩))
 go_loopw [5, 10] (fun v i wr => ∃ (k : Nat) (A : Option Addr) (c : Nat), k ≤ n ∧ i = .int .i64 k ∧ v = .slice A k c ∧ Hid (wr.ownsRow w.heap.size 102 7 (.slice A k c) k ((L.take k).flatMap cRep) ∧ Rdr wr g q ((L.drop k).flatMap repB ++ tl) ∧ w.grownBy wr (some g))) (fun _ i _ => n - (intOf i).toNat)
 case atStart => exact ⟨0, none, 0, by omega, rfl, rfl, Lib.hid ⟨World.ownsRow_nil w _ _ _, H0.out, grown_self _ _⟩⟩
 case round =>
  obtain ⟨k, A1, c1, hk, rfl, rfl, HL⟩ := hrel
  by_cases hkn : k < n
  · have hkl : k < L.length := by rw [HN.out]; exact hkn
    have hxf := HF.out _ (List.getElem_mem hkl)
    have HV := Lib.hid (vals_at cRep hkl)
    rw [flat_at _ hkl] at HL
    obtain ⟨x, hx⟩ : ∃ x, x = L[k] := ⟨_, rfl⟩
    rw [← hx] at hxf HV HL
    have C1 := Lib.hid ((rep_next g q x _ _ hxf HL.out.2.1))
    have hsz := HL.out.2.2.size
    clear hx
    have C2 : Hid (Calls Tryz.prog 119 #[.pointer (some ⟨g, 0, none⟩)] wr fun r w1 => r = .returned (.agg (cRep x).toArray) ∧ Rdr w1 g q ((L.drop (k + 1)).flatMap repB ++ tl) ∧ wr.grownBy w1 (some g)) := C1
    clear C1 hxf
    obtain ⟨so, fr, lo, hi, ji, la, de⟩ := x
    have C3 : Hid (Calls Tryz.prog 119 #[.pointer (some ⟨g, 0, none⟩)] wr fun r w1 => r = .returned (.agg #[.int .u32 (so : Int), .int .u8 (fr : Int), .int .i32 lo, .int .u32 (hi : Int), .int .u32 (ji : Int), .int .u32 (la : Int), .int .u32 (de : Int)]) ∧ Rdr w1 g q ((L.drop (k + 1)).flatMap repB ++ tl) ∧ wr.grownBy w1 (some g)) := C2
    clear C2
    go_wp2_with (first
     | (go_at_call 119; ((with_reducible refine (Hid.out C3).mono ?_); rintro e w1 ⟨rfl, hr1, hg1⟩; have G1 := Lib.hid (And.intro hr1 hg1); have hsz1 := hg1.size; clear hr1 hg1))
     | (at_builtin; refine wpList_appV rfl (.tmp 12) (.tmp 15) elRep rfl w.heap.size (.slice A1 k c1) k ((L.take k).flatMap cRep) rfl ((HL.out.1.kept G1.out.2 (.inr (fun e => by have := (HL.out.1.lt _ e).1; omega))).alloc _) w1.heap.size rfl (cRep ⟨so, fr, lo, hi, ji, la, de⟩) rfl (cRep_one _) (BlkV.new w1 102 (cRep ⟨so, fr, lo, hi, ji, la, de⟩)) (by omega) (by simp; omega) ?_; intro v2 w2 hown2 hg2 _; obtain ⟨A2, c2, hv2⟩ := own_formN hown2; subst hv2))
    have hlo : ∀ p, (Value.slice A1 k c1).ownBlock = some p → w.heap.size ≤ p := fun p hp => (HL.out.1.lt p hp).1
    go_roundw
    case rel => exact ⟨k + 1, A2, c2, by omega, by go_num, rfl, Lib.hid ⟨by rw [HV.out]; exact hown2, (G1.out.1.alloc _).grown hg2 (fun p hp => by have := hlo p hp; omega), grown_then (grown_then (grown_then HL.out.2.2 G1.out.2 (fun p hp => .inr (by injection hp with hp; exact hp.symm))) (grown_alloc _ _ none) (fun p hp => by cases hp)) hg2 (fun p hp => .inl (hlo p hp))⟩⟩
    case measure => simp [intOf]; omega
  · obtain rfl : k = n := by omega
    rw [show L.take k = L by rw [← HN.out, List.take_length], show L.drop k = [] by rw [← HN.out, List.drop_length]] at HL
    go_wp2
    go_ret
    exact ⟨A1, c1, rfl, HL.out.1, HL.out.2.1, HL.out.2.2⟩

set_option maxRecDepth 100000 in
set_option maxHeartbeats 400000 in
theorem nam_list (g q n : Nat) (L : List (Nat × List UInt8)) (tl : List UInt8) (w : World) (hn : L.length = n) (h16 : n ≤ 16) (hL : ∀ x ∈ L, x.1 < 4294967296 ∧ nameP (txt x.2)) (h : Rdr w g q (L.flatMap namB ++ tl)) :
 Calls Tryz.prog 120 #[.int .i64 (n : Int), .func (.func 121) #[.pointer (some ⟨g, 0, none⟩)] #[]] w fun r w' => ∃ A c, r = .returned (.slice A n c) ∧ w'.ownsRow w.heap.size 62 2 (.slice A n c) n (L.flatMap cNam) ∧ Rdr w' g q tl ∧ w.grownBy w' (some g) := by
 have H0 := Lib.hid h
 have HF := Lib.hid hL
 have HN := Lib.hid hn
 have hg := h.lt
 clear h hL hn
 go_enter Tryz.func120, Tryz.ntmps120
 go_wp2_with (go_at_call 41; ((with_reducible refine (refuse_no _ _ _ ?_).mono ?_); (first | rfl | (simp; omega)); rintro e wx ⟨rfl, rfl⟩))
 go_loopw [5, 10] (fun v i wr => ∃ (k : Nat) (A : Option Addr) (c : Nat), k ≤ n ∧ i = .int .i64 k ∧ v = .slice A k c ∧ Hid (wr.ownsRow w.heap.size 62 2 (.slice A k c) k ((L.take k).flatMap cNam) ∧ Rdr wr g q ((L.drop k).flatMap namB ++ tl) ∧ w.grownBy wr (some g))) (fun _ i _ => n - (intOf i).toNat)
 case atStart => exact ⟨0, none, 0, by omega, rfl, rfl, Lib.hid ⟨World.ownsRow_nil w _ _ _, H0.out, grown_self _ _⟩⟩
 case round =>
  obtain ⟨k, A1, c1, hk, rfl, rfl, HL⟩ := hrel
  by_cases hkn : k < n
  · have hkl : k < L.length := by rw [HN.out]; exact hkn
    have hxf := HF.out _ (List.getElem_mem hkl)
    have HV := Lib.hid (vals_at cNam hkl)
    rw [flat_at _ hkl] at HL
    obtain ⟨x, hx⟩ : ∃ x, x = L[k] := ⟨_, rfl⟩
    rw [← hx] at hxf HV HL
    have C1 := Lib.hid ((nam_next g q x _ _ hxf HL.out.2.1))
    have hsz := HL.out.2.2.size
    clear hx
    have C2 : Hid (Calls Tryz.prog 121 #[.pointer (some ⟨g, 0, none⟩)] wr fun r w1 => r = .returned (.agg (cNam x).toArray) ∧ Rdr w1 g q ((L.drop (k + 1)).flatMap namB ++ tl) ∧ wr.grownBy w1 (some g)) := C1
    clear C1 hxf
    obtain ⟨s, t⟩ := x
    have C3 : Hid (Calls Tryz.prog 121 #[.pointer (some ⟨g, 0, none⟩)] wr fun r w1 => r = .returned (.agg #[.int .u32 (s : Int), .string (txt t)]) ∧ Rdr w1 g q ((L.drop (k + 1)).flatMap namB ++ tl) ∧ wr.grownBy w1 (some g)) := C2
    clear C2
    go_wp2_with (first
     | (go_at_call 121; ((with_reducible refine (Hid.out C3).mono ?_); rintro e w1 ⟨rfl, hr1, hg1⟩; have G1 := Lib.hid (And.intro hr1 hg1); have hsz1 := hg1.size; clear hr1 hg1))
     | (at_builtin; refine wpList_appV rfl (.tmp 12) (.tmp 15) elNam rfl w.heap.size (.slice A1 k c1) k ((L.take k).flatMap cNam) rfl ((HL.out.1.kept G1.out.2 (.inr (fun e => by have := (HL.out.1.lt _ e).1; omega))).alloc _) w1.heap.size rfl (cNam ⟨s, t⟩) rfl (cNam_one _) (BlkV.new w1 62 (cNam ⟨s, t⟩)) (by omega) (by simp; omega) ?_; intro v2 w2 hown2 hg2 _; obtain ⟨A2, c2, hv2⟩ := own_formN hown2; subst hv2))
    have hlo : ∀ p, (Value.slice A1 k c1).ownBlock = some p → w.heap.size ≤ p := fun p hp => (HL.out.1.lt p hp).1
    go_roundw
    case rel => exact ⟨k + 1, A2, c2, by omega, by go_num, rfl, Lib.hid ⟨by rw [HV.out]; exact hown2, (G1.out.1.alloc _).grown hg2 (fun p hp => by have := hlo p hp; omega), grown_then (grown_then (grown_then HL.out.2.2 G1.out.2 (fun p hp => .inr (by injection hp with hp; exact hp.symm))) (grown_alloc _ _ none) (fun p hp => by cases hp)) hg2 (fun p hp => .inl (hlo p hp))⟩⟩
    case measure => simp [intOf]; omega
  · obtain rfl : k = n := by omega
    rw [show L.take k = L by rw [← HN.out, List.take_length], show L.drop k = [] by rw [← HN.out, List.drop_length]] at HL
    go_wp2
    go_ret
    exact ⟨A1, c1, rfl, HL.out.1, HL.out.2.1, HL.out.2.2⟩

set_option maxRecDepth 100000 in
set_option maxHeartbeats 400000 in
theorem los_list (g q n : Nat) (L : List (Nat × Nat)) (tl : List UInt8) (w : World) (hn : L.length = n) (h16 : n ≤ 16) (hL : ∀ x ∈ L, x.1 < 65536 ∧ x.2 < 65536) (h : Rdr w g q (L.flatMap lossB ++ tl)) :
 Calls Tryz.prog 139 #[.int .i64 (n : Int), .func (.func 124) #[.pointer (some ⟨g, 0, none⟩)] #[]] w fun r w' => ∃ A c, r = .returned (.slice A n c) ∧ w'.ownsRow w.heap.size 104 2 (.slice A n c) n (L.flatMap cLos) ∧ Rdr w' g q tl ∧ w.grownBy w' (some g) := by
 have H0 := Lib.hid h
 have HF := Lib.hid hL
 have HN := Lib.hid hn
 have hg := h.lt
 clear h hL hn
 go_enter Tryz.func139, Tryz.ntmps139
 go_wp2_with (go_at_call 41; ((with_reducible refine (refuse_no _ _ _ ?_).mono ?_); (first | rfl | (simp; omega)); rintro e wx ⟨rfl, rfl⟩))
 go_loopw [5, 10] (fun v i wr => ∃ (k : Nat) (A : Option Addr) (c : Nat), k ≤ n ∧ i = .int .i64 k ∧ v = .slice A k c ∧ Hid (wr.ownsRow w.heap.size 104 2 (.slice A k c) k ((L.take k).flatMap cLos) ∧ Rdr wr g q ((L.drop k).flatMap lossB ++ tl) ∧ w.grownBy wr (some g))) (fun _ i _ => n - (intOf i).toNat)
 case atStart => exact ⟨0, none, 0, by omega, rfl, rfl, Lib.hid ⟨World.ownsRow_nil w _ _ _, H0.out, grown_self _ _⟩⟩
 case round =>
  obtain ⟨k, A1, c1, hk, rfl, rfl, HL⟩ := hrel
  by_cases hkn : k < n
  · have hkl : k < L.length := by rw [HN.out]; exact hkn
    have hxf := HF.out _ (List.getElem_mem hkl)
    have HV := Lib.hid (vals_at cLos hkl)
    rw [flat_at _ hkl] at HL
    obtain ⟨x, hx⟩ : ∃ x, x = L[k] := ⟨_, rfl⟩
    rw [← hx] at hxf HV HL
    have C1 := Lib.hid ((los_next g q x _ _ hxf HL.out.2.1))
    have hsz := HL.out.2.2.size
    clear hx
    have C2 : Hid (Calls Tryz.prog 124 #[.pointer (some ⟨g, 0, none⟩)] wr fun r w1 => r = .returned (.agg (cLos x).toArray) ∧ Rdr w1 g q ((L.drop (k + 1)).flatMap lossB ++ tl) ∧ wr.grownBy w1 (some g)) := C1
    clear C1 hxf
    obtain ⟨s, b⟩ := x
    have C3 : Hid (Calls Tryz.prog 124 #[.pointer (some ⟨g, 0, none⟩)] wr fun r w1 => r = .returned (.agg #[.int .u16 (s : Int), .int .u16 (b : Int)]) ∧ Rdr w1 g q ((L.drop (k + 1)).flatMap lossB ++ tl) ∧ wr.grownBy w1 (some g)) := C2
    clear C2
    go_wp2_with (first
     | (go_at_call 124; ((with_reducible refine (Hid.out C3).mono ?_); rintro e w1 ⟨rfl, hr1, hg1⟩; have G1 := Lib.hid (And.intro hr1 hg1); have hsz1 := hg1.size; clear hr1 hg1))
     | (at_builtin; refine wpList_appV rfl (.tmp 12) (.tmp 15) elLos rfl w.heap.size (.slice A1 k c1) k ((L.take k).flatMap cLos) rfl ((HL.out.1.kept G1.out.2 (.inr (fun e => by have := (HL.out.1.lt _ e).1; omega))).alloc _) w1.heap.size rfl (cLos ⟨s, b⟩) rfl (cLos_one _) (BlkV.new w1 104 (cLos ⟨s, b⟩)) (by omega) (by simp; omega) ?_; intro v2 w2 hown2 hg2 _; obtain ⟨A2, c2, hv2⟩ := own_formN hown2; subst hv2))
    have hlo : ∀ p, (Value.slice A1 k c1).ownBlock = some p → w.heap.size ≤ p := fun p hp => (HL.out.1.lt p hp).1
    go_roundw
    case rel => exact ⟨k + 1, A2, c2, by omega, by go_num, rfl, Lib.hid ⟨by rw [HV.out]; exact hown2, (G1.out.1.alloc _).grown hg2 (fun p hp => by have := hlo p hp; omega), grown_then (grown_then (grown_then HL.out.2.2 G1.out.2 (fun p hp => .inr (by injection hp with hp; exact hp.symm))) (grown_alloc _ _ none) (fun p hp => by cases hp)) hg2 (fun p hp => .inl (hlo p hp))⟩⟩
    case measure => simp [intOf]; omega
  · obtain rfl : k = n := by omega
    rw [show L.take k = L by rw [← HN.out, List.take_length], show L.drop k = [] by rw [← HN.out, List.drop_length]] at HL
    go_wp2
    go_ret
    exact ⟨A1, c1, rfl, HL.out.1, HL.out.2.1, HL.out.2.2⟩

set_option maxRecDepth 100000 in
set_option maxHeartbeats 400000 in
theorem fir_list (g q n : Nat) (L : List (Nat × Nat)) (tl : List UInt8) (w : World) (hn : L.length = n) (h16 : n ≤ 16) (hL : ∀ x ∈ L, x.1 < 4294967296 ∧ x.2 < 256) (h : Rdr w g q (L.flatMap firB ++ tl)) :
 Calls Tryz.prog 140 #[.int .i64 (n : Int), .func (.func 127) #[.pointer (some ⟨g, 0, none⟩)] #[]] w fun r w' => ∃ A c, r = .returned (.slice A n c) ∧ w'.ownsRow w.heap.size 106 2 (.slice A n c) n (L.flatMap cFir) ∧ Rdr w' g q tl ∧ w.grownBy w' (some g) := by
 have H0 := Lib.hid h
 have HF := Lib.hid hL
 have HN := Lib.hid hn
 have hg := h.lt
 clear h hL hn
 go_enter Tryz.func140, Tryz.ntmps140
 go_wp2_with (go_at_call 41; ((with_reducible refine (refuse_no _ _ _ ?_).mono ?_); (first | rfl | (simp; omega)); rintro e wx ⟨rfl, rfl⟩))
 go_loopw [5, 10] (fun v i wr => ∃ (k : Nat) (A : Option Addr) (c : Nat), k ≤ n ∧ i = .int .i64 k ∧ v = .slice A k c ∧ Hid (wr.ownsRow w.heap.size 106 2 (.slice A k c) k ((L.take k).flatMap cFir) ∧ Rdr wr g q ((L.drop k).flatMap firB ++ tl) ∧ w.grownBy wr (some g))) (fun _ i _ => n - (intOf i).toNat)
 case atStart => exact ⟨0, none, 0, by omega, rfl, rfl, Lib.hid ⟨World.ownsRow_nil w _ _ _, H0.out, grown_self _ _⟩⟩
 case round =>
  obtain ⟨k, A1, c1, hk, rfl, rfl, HL⟩ := hrel
  by_cases hkn : k < n
  · have hkl : k < L.length := by rw [HN.out]; exact hkn
    have hxf := HF.out _ (List.getElem_mem hkl)
    have HV := Lib.hid (vals_at cFir hkl)
    rw [flat_at _ hkl] at HL
    obtain ⟨x, hx⟩ : ∃ x, x = L[k] := ⟨_, rfl⟩
    rw [← hx] at hxf HV HL
    have C1 := Lib.hid ((fir_next g q x _ _ hxf HL.out.2.1))
    have hsz := HL.out.2.2.size
    clear hx
    have C2 : Hid (Calls Tryz.prog 127 #[.pointer (some ⟨g, 0, none⟩)] wr fun r w1 => r = .returned (.agg (cFir x).toArray) ∧ Rdr w1 g q ((L.drop (k + 1)).flatMap firB ++ tl) ∧ wr.grownBy w1 (some g)) := C1
    clear C1 hxf
    obtain ⟨s, b⟩ := x
    have C3 : Hid (Calls Tryz.prog 127 #[.pointer (some ⟨g, 0, none⟩)] wr fun r w1 => r = .returned (.agg #[.int .u32 (s : Int), .int .u8 (b : Int)]) ∧ Rdr w1 g q ((L.drop (k + 1)).flatMap firB ++ tl) ∧ wr.grownBy w1 (some g)) := C2
    clear C2
    go_wp2_with (first
     | (go_at_call 127; ((with_reducible refine (Hid.out C3).mono ?_); rintro e w1 ⟨rfl, hr1, hg1⟩; have G1 := Lib.hid (And.intro hr1 hg1); have hsz1 := hg1.size; clear hr1 hg1))
     | (at_builtin; refine wpList_appV rfl (.tmp 12) (.tmp 15) elFir rfl w.heap.size (.slice A1 k c1) k ((L.take k).flatMap cFir) rfl ((HL.out.1.kept G1.out.2 (.inr (fun e => by have := (HL.out.1.lt _ e).1; omega))).alloc _) w1.heap.size rfl (cFir ⟨s, b⟩) rfl (cFir_one _) (BlkV.new w1 106 (cFir ⟨s, b⟩)) (by omega) (by simp; omega) ?_; intro v2 w2 hown2 hg2 _; obtain ⟨A2, c2, hv2⟩ := own_formN hown2; subst hv2))
    have hlo : ∀ p, (Value.slice A1 k c1).ownBlock = some p → w.heap.size ≤ p := fun p hp => (HL.out.1.lt p hp).1
    go_roundw
    case rel => exact ⟨k + 1, A2, c2, by omega, by go_num, rfl, Lib.hid ⟨by rw [HV.out]; exact hown2, (G1.out.1.alloc _).grown hg2 (fun p hp => by have := hlo p hp; omega), grown_then (grown_then (grown_then HL.out.2.2 G1.out.2 (fun p hp => .inr (by injection hp with hp; exact hp.symm))) (grown_alloc _ _ none) (fun p hp => by cases hp)) hg2 (fun p hp => .inl (hlo p hp))⟩⟩
    case measure => simp [intOf]; omega
  · obtain rfl : k = n := by omega
    rw [show L.take k = L by rw [← HN.out, List.take_length], show L.drop k = [] by rw [← HN.out, List.drop_length]] at HL
    go_wp2
    go_ret
    exact ⟨A1, c1, rfl, HL.out.1, HL.out.2.1, HL.out.2.2⟩

set_option maxRecDepth 100000 in
set_option maxHeartbeats 400000 in
theorem src_list (g q n : Nat) (L : List Nat) (tl : List UInt8) (w : World) (hn : L.length = n) (h16 : n ≤ 16) (hL : ∀ x ∈ L, x < 4294967296) (h : Rdr w g q (L.flatMap (beb 4) ++ tl)) :
 Calls Tryz.prog 122 #[.int .i64 (n : Int), .func (.func 116) #[.pointer (some ⟨g, 0, none⟩)] #[]] w fun r w' => ∃ A c, r = .returned (.slice A n c) ∧ w'.ownsRow w.heap.size 36 1 (.slice A n c) n (L.flatMap cSrc) ∧ Rdr w' g q tl ∧ w.grownBy w' (some g) := by
 have H0 := Lib.hid h
 have HF := Lib.hid hL
 have HN := Lib.hid hn
 have hg := h.lt
 clear h hL hn
 go_enter Tryz.func122, Tryz.ntmps122
 go_wp2_with (go_at_call 41; ((with_reducible refine (refuse_no _ _ _ ?_).mono ?_); (first | rfl | (simp; omega)); rintro e wx ⟨rfl, rfl⟩))
 go_loopw [5, 10] (fun v i wr => ∃ (k : Nat) (A : Option Addr) (c : Nat), k ≤ n ∧ i = .int .i64 k ∧ v = .slice A k c ∧ Hid (wr.ownsRow w.heap.size 36 1 (.slice A k c) k ((L.take k).flatMap cSrc) ∧ Rdr wr g q ((L.drop k).flatMap (beb 4) ++ tl) ∧ w.grownBy wr (some g))) (fun _ i _ => n - (intOf i).toNat)
 case atStart => exact ⟨0, none, 0, by omega, rfl, rfl, Lib.hid ⟨World.ownsRow_nil w _ _ _, H0.out, grown_self _ _⟩⟩
 case round =>
  obtain ⟨k, A1, c1, hk, rfl, rfl, HL⟩ := hrel
  by_cases hkn : k < n
  · have hkl : k < L.length := by rw [HN.out]; exact hkn
    have hxf := HF.out _ (List.getElem_mem hkl)
    have HV := Lib.hid (vals_at cSrc hkl)
    rw [flat_at _ hkl] at HL
    obtain ⟨x, hx⟩ : ∃ x, x = L[k] := ⟨_, rfl⟩
    rw [← hx] at hxf HV HL
    have C1 := Lib.hid ((wordB g q x _ _ hxf HL.out.2.1).mono fun r w1 hh => (⟨hh.1, hh.2.1, hh.2.2.grown⟩ : r = .returned (.int .u32 (x : Int)) ∧ Rdr w1 g q _ ∧ wr.grownBy w1 (some g)))
    have hsz := HL.out.2.2.size
    clear hx
    have C2 : Hid (Calls Tryz.prog 116 #[.pointer (some ⟨g, 0, none⟩)] wr fun r w1 => r = .returned (.int .u32 (x : Int)) ∧ Rdr w1 g q ((L.drop (k + 1)).flatMap (beb 4) ++ tl) ∧ wr.grownBy w1 (some g)) := C1
    clear C1 hxf
    obtain x := x
    have C3 : Hid (Calls Tryz.prog 116 #[.pointer (some ⟨g, 0, none⟩)] wr fun r w1 => r = .returned (.int .u32 (x : Int)) ∧ Rdr w1 g q ((L.drop (k + 1)).flatMap (beb 4) ++ tl) ∧ wr.grownBy w1 (some g)) := C2
    clear C2
    go_wp2_with (first
     | (go_at_call 116; ((with_reducible refine (Hid.out C3).mono ?_); rintro e w1 ⟨rfl, hr1, hg1⟩; have G1 := Lib.hid (And.intro hr1 hg1); have hsz1 := hg1.size; clear hr1 hg1))
     | (at_builtin; refine wpList_appV rfl (.tmp 12) (.tmp 15) elSrc rfl w.heap.size (.slice A1 k c1) k ((L.take k).flatMap cSrc) rfl ((HL.out.1.kept G1.out.2 (.inr (fun e => by have := (HL.out.1.lt _ e).1; omega))).alloc _) w1.heap.size rfl (cSrc x) rfl (cSrc_one _) (BlkV.new w1 36 (cSrc x)) (by omega) (by simp; omega) ?_; intro v2 w2 hown2 hg2 _; obtain ⟨A2, c2, hv2⟩ := own_formN hown2; subst hv2))
    have hlo : ∀ p, (Value.slice A1 k c1).ownBlock = some p → w.heap.size ≤ p := fun p hp => (HL.out.1.lt p hp).1
    go_roundw
    case rel => exact ⟨k + 1, A2, c2, by omega, by go_num, rfl, Lib.hid ⟨by rw [HV.out]; exact hown2, (G1.out.1.alloc _).grown hg2 (fun p hp => by have := hlo p hp; omega), grown_then (grown_then (grown_then HL.out.2.2 G1.out.2 (fun p hp => .inr (by injection hp with hp; exact hp.symm))) (grown_alloc _ _ none) (fun p hp => by cases hp)) hg2 (fun p hp => .inl (hlo p hp))⟩⟩
    case measure => simp [intOf]; omega
  · obtain rfl : k = n := by omega
    rw [show L.take k = L by rw [← HN.out, List.take_length], show L.drop k = [] by rw [← HN.out, List.drop_length]] at HL
    go_wp2
    go_ret
    exact ⟨A1, c1, rfl, HL.out.1, HL.out.2.1, HL.out.2.2⟩

end Go.Proofs.YtheefckohnaceaaGreatDoor

namespace Go.Proofs.YtheefckohnaceaaGreatDoor
set_option linter.unusedVariables false

structure Ctl where
 k : Int
 so : Nat
 me : Nat
 ti : Nat
 st : Nat
 pa : Nat
 oc : Nat
 reps : List Rep
 nams : List (Nat × List UInt8)
 srcs : List Nat
 loss : List (Nat × Nat)
 firs : List (Nat × Nat)
 ra : Nat
def mkSR (k : Int) (so ti st pa oc : Nat) (L : List Rep) : Ctl := ⟨k, so, 0, ti, st, pa, oc, L, [], [], [], [], 0⟩
def mkRR (k : Int) (so : Nat) (L : List Rep) : Ctl := ⟨k, so, 0, 0, 0, 0, 0, L, [], [], [], [], 0⟩
def mkSD (k : Int) (L : List (Nat × List UInt8)) : Ctl := ⟨k, 0, 0, 0, 0, 0, 0, [], L, [], [], [], 0⟩
def mkBY (k : Int) (L : List Nat) : Ctl := ⟨k, 0, 0, 0, 0, 0, 0, [], [], L, [], [], 0⟩
def mkNA (k : Int) (so me : Nat) (L : List (Nat × Nat)) : Ctl := ⟨k, so, me, 0, 0, 0, 0, [], [], [], L, [], 0⟩
def mkPL (k : Int) (so me : Nat) : Ctl := ⟨k, so, me, 0, 0, 0, 0, [], [], [], [], [], 0⟩
def mkFI (k : Int) (so : Nat) (L : List (Nat × Nat)) : Ctl := ⟨k, so, 0, 0, 0, 0, 0, [], [], [], [], L, 0⟩
def mkRE (k : Int) (so : Nat) (L : List Nat) (ra : Nat) : Ctl := ⟨k, so, 0, 0, 0, 0, 0, [], [], L, [], [], ra⟩

def bSR (so ti st pa oc : Nat) (L : List Rep) : List UInt8 := beb 4 so ++ (beb 8 ti ++ (beb 4 st ++ (beb 4 pa ++ (beb 4 oc ++ L.flatMap repB))))
def bRR (so : Nat) (L : List Rep) : List UInt8 := beb 4 so ++ L.flatMap repB
def bSD (L : List (Nat × List UInt8)) : List UInt8 := L.flatMap namB
def bBY (L : List Nat) : List UInt8 := L.flatMap (beb 4)
def bNA (so me : Nat) (L : List (Nat × Nat)) : List UInt8 := beb 4 so ++ (beb 4 me ++ L.flatMap lossB)
def bPL (so me : Nat) : List UInt8 := beb 4 so ++ beb 4 me
def bFI (so : Nat) (L : List (Nat × Nat)) : List UInt8 := beb 4 so ++ (beb 4 0 ++ L.flatMap firB)
def letB : List UInt8 := [82, 69, 77, 66]
def bRE (so : Nat) (L : List Nat) (m e : Nat) : List UInt8 := beb 4 so ++ (beb 4 0 ++ (letB ++ (beb 1 L.length ++ (beb 3 (e * 262144 + m) ++ L.flatMap (beb 4)))))
theorem beb_zero (n : Nat) : beb n 0 = List.replicate n 0 := by
 unfold beb
 apply List.ext_getElem <;> simp
end Go.Proofs.YtheefckohnaceaaGreatDoor
