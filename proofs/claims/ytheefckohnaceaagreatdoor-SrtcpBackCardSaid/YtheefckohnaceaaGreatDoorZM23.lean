/- Several texts in one: plain words and walks. No statement is proved here. -/
import Derived.Test.YtheefckohnaceaaGreatDoorZM21
import Derived.Test.YtheefckohnaceaaGreatDoorZM17
import Derived.Test.YtheefckohnaceaaGreatDoorZM22
import Derived.Test.YtheefckohnaceaaGreatDoorZRtcp31
import Derived.Test.YtheefckohnaceaaGreatDoorZM19
import Derived.Test.YtheefckohnaceaaGreatDoorZM11
namespace Go.Proofs.YtheefckohnaceaaGreatDoor
open Go.RowKit
set_option linter.unusedVariables false

theorem wr1_facts (c : Ctl) (q s : Nat) (hq : cntC c = q) (hs : typC c = s) (q32 : q < 32) (s256 : s < 256) (h4 : (bodyC c).length % 4 = 0) (hl : (bodyC c).length ≤ 262140) :
 ((wr1 c).getD 0 0).toNat = 128 + q ∧ ((wr1 c).getD 1 0).toNat = s ∧ (wr1 c).drop 4 = bodyC c ∧ numb (((wr1 c).drop 2).take 2) = (bodyC c).length / 4 ∧ (wr1 c).length = 4 + 4 * ((bodyC c).length / 4) := by
 obtain ⟨B, hB⟩ : ∃ B, B = bodyC c := ⟨_, rfl⟩
 have e : wr1 c = [UInt8.ofNat (128 + q)] ++ ([UInt8.ofNat s] ++ (beb 2 (B.length / 4) ++ B)) := by
  unfold wr1
  rw [hq, hs, ← hB, beb_succ 0 (128 + q), beb_succ 0 s]; rfl
 rw [← hB] at h4 hl ⊢
 have l2 := length_beb 2 (B.length / 4)
 rw [e]
 refine ⟨by simp [List.getD]; omega, by simp [List.getD]; omega, ?_, ?_, ?_⟩
 · show (beb 2 (B.length / 4) ++ B).drop 2 = B
   rw [List.drop_left' l2]
 · show numb ((beb 2 (B.length / 4) ++ B).take 2) = _
   rw [List.take_left' l2, numb_beb, Nat.mod_eq_of_lt (by simp only [Nat.reducePow]; omega)]
 · simp [l2]; omega
theorem body_le {α : Type} (f : α → List UInt8) (n : Nat) (L : List α) (h : ∀ x ∈ L, (f x).length ≤ n) (h16 : L.length ≤ 16) : (L.flatMap f).length ≤ n * 16 := Nat.le_trans (flat_le f n L h) (Nat.mul_le_mul_left n h16)
theorem beb4_len (x : Nat) : (beb 4 x).length % 4 = 0 := by rw [length_beb]
theorem nam_le (x : Nat × List UInt8) (h : nameP (txt x.2)) : (namB x).length ≤ 26 := by
 have h2 := h.2.1
 have hsz : (txt x.2).size = x.2.length := by simp [txt, ByteArray.size]
 rw [hsz] at h2
 rw [namB_len]; unfold zb; omega

theorem pk_sr (so ti st pa oc : Nat) (L : List Rep) (hso : so < 4294967296) (hti : ti < 18446744073709551616) (hst : st < 4294967296) (hpa : pa < 4294967296) (hoc : oc < 4294967296) (h16 : L.length ≤ 16) (hL : ∀ x ∈ L, x.fit ∧ x.ok) : PacketIs (wr1 (mkSR 200 so ti st pa oc L)) (mkSR 200 so ti st pa oc L) := by
 have hb : bodyC (mkSR 200 so ti st pa oc L) = bSR so ti st pa oc L := rfl
 have h4 : (bodyC (mkSR 200 so ti st pa oc L)).length % 4 = 0 := by
  rw [hb]
  simp only [bSR, List.length_append, length_beb]
  have := flat_four repB (fun x => by rw [repB_len]) L
  omega
 have hl : (bodyC (mkSR 200 so ti st pa oc L)).length ≤ 262140 := by
  rw [hb]
  simp only [bSR, List.length_append, length_beb]
  have := body_le repB 24 L (fun x _ => by rw [repB_len]; omega) h16
  omega
 obtain ⟨f0, f1, f2, f3, f4⟩ := wr1_facts (mkSR 200 so ti st pa oc L) (L.length + 0 + 0) 200 rfl rfl (by omega) (by omega) h4 hl
 refine ⟨⟨_, f3, f4.symm⟩, fun A n cc w ht hw hr => ?_⟩
 have hn := hr.len
 exact packet_sent A n cc (L.length + 0 + 0) 200 (wr1 (mkSR 200 so ti st pa oc L)) (mkSR 0 so ti st pa oc L) w ht hw hr (by omega) (by omega) (by omega) f0 f1 (by simp [kindN]) ⟨rfl, fun g W h => by
  rw [f2, hb] at h
  exact sent_any g _ so ti st pa oc L W hso hti hst hpa hoc hL rfl h16 h⟩

theorem pk_rr (so : Nat) (L : List Rep) (hso : so < 4294967296) (h16 : L.length ≤ 16) (hL : ∀ x ∈ L, x.fit ∧ x.ok) : PacketIs (wr1 (mkRR 201 so L)) (mkRR 201 so L) := by
 have hb : bodyC (mkRR 201 so L) = bRR so L := rfl
 have h4 : (bodyC (mkRR 201 so L)).length % 4 = 0 := by
  rw [hb]
  simp only [bRR, List.length_append, length_beb]
  have := flat_four repB (fun x => by rw [repB_len]) L
  omega
 have hl : (bodyC (mkRR 201 so L)).length ≤ 262140 := by
  rw [hb]
  simp only [bRR, List.length_append, length_beb]
  have := body_le repB 24 L (fun x _ => by rw [repB_len]; omega) h16
  omega
 obtain ⟨f0, f1, f2, f3, f4⟩ := wr1_facts (mkRR 201 so L) (L.length + 0 + 0) 201 rfl rfl (by omega) (by omega) h4 hl
 refine ⟨⟨_, f3, f4.symm⟩, fun A n cc w ht hw hr => ?_⟩
 have hn := hr.len
 exact packet_received A n cc (L.length + 0 + 0) 201 (wr1 (mkRR 201 so L)) (mkRR 0 so L) w ht hw hr (by omega) (by omega) (by omega) f0 f1 (by simp [kindN]) ⟨rfl, fun g W h => by
  rw [f2, hb] at h
  exact received_any g _ so L W hso hL rfl h16 h⟩

theorem pk_sd (L : List (Nat × List UInt8)) (h16 : L.length ≤ 16) (hL : ∀ x ∈ L, x.1 < 4294967296 ∧ nameP (txt x.2)) : PacketIs (wr1 (mkSD 202 L)) (mkSD 202 L) := by
 have hb : bodyC (mkSD 202 L) = bSD L := rfl
 have h4 : (bodyC (mkSD 202 L)).length % 4 = 0 := by
  rw [hb]
  simp only [bSD]
  have := flat_four namB namB_four L
  omega
 have hl : (bodyC (mkSD 202 L)).length ≤ 262140 := by
  rw [hb]
  simp only [bSD]
  have := body_le namB 26 L (fun x hx => nam_le x (hL x hx).2) h16
  omega
 obtain ⟨f0, f1, f2, f3, f4⟩ := wr1_facts (mkSD 202 L) (0 + L.length + 0) 202 rfl rfl (by omega) (by omega) h4 hl
 refine ⟨⟨_, f3, f4.symm⟩, fun A n cc w ht hw hr => ?_⟩
 have hn := hr.len
 exact packet_names A n cc (0 + L.length + 0) 202 (wr1 (mkSD 202 L)) (mkSD 0 L) w ht hw hr (by omega) (by omega) (by omega) f0 f1 (by simp [kindN]) ⟨rfl, fun g W h => by
  rw [f2, hb] at h
  exact names_any g _ L.length L W (by omega) rfl h16 hL h⟩

theorem pk_by (L : List Nat) (h16 : L.length ≤ 16) (hL : ∀ x ∈ L, x < 4294967296) : PacketIs (wr1 (mkBY 203 L)) (mkBY 203 L) := by
 have hb : bodyC (mkBY 203 L) = bBY L := rfl
 have h4 : (bodyC (mkBY 203 L)).length % 4 = 0 := by
  rw [hb]
  simp only [bBY]
  have := flat_four (beb 4) beb4_len L
  omega
 have hl : (bodyC (mkBY 203 L)).length ≤ 262140 := by
  rw [hb]
  simp only [bBY]
  have := body_le (beb 4) 4 L (fun x _ => by rw [length_beb]; omega) h16
  omega
 obtain ⟨f0, f1, f2, f3, f4⟩ := wr1_facts (mkBY 203 L) (0 + 0 + L.length) 203 rfl rfl (by omega) (by omega) h4 hl
 refine ⟨⟨_, f3, f4.symm⟩, fun A n cc w ht hw hr => ?_⟩
 have hn := hr.len
 exact packet_bye A n cc (0 + 0 + L.length) 203 (wr1 (mkBY 203 L)) (mkBY 0 L) w ht hw hr (by omega) (by omega) (by omega) f0 f1 (by simp [kindN]) ⟨rfl, fun g W h => by
  rw [f2, hb] at h
  exact bye_any g _ L.length L W (by omega) rfl h16 hL h⟩

theorem pk_na (so me : Nat) (L : List (Nat × Nat)) (hso : so < 4294967296) (hme : me < 4294967296) (h1 : 1 ≤ L.length) (h16 : L.length ≤ 16) (hL : ∀ x ∈ L, x.1 < 65536 ∧ x.2 < 65536) : PacketIs (wr1 (mkNA 1 so me L)) (mkNA 1 so me L) := by
 have hb : bodyC (mkNA 1 so me L) = bNA so me L := rfl
 have h4 : (bodyC (mkNA 1 so me L)).length % 4 = 0 := by
  rw [hb]
  simp only [bNA, List.length_append, length_beb]
  have := flat_four lossB (fun x => by rw [lossB_len]) L
  omega
 have hl : (bodyC (mkNA 1 so me L)).length ≤ 262140 := by
  rw [hb]
  simp only [bNA, List.length_append, length_beb]
  have := body_le lossB 4 L (fun x _ => by rw [lossB_len]; omega) h16
  omega
 obtain ⟨f0, f1, f2, f3, f4⟩ := wr1_facts (mkNA 1 so me L) (1) 205 rfl rfl (by omega) (by omega) h4 hl
 refine ⟨⟨_, f3, f4.symm⟩, fun A n cc w ht hw hr => ?_⟩
 have hn := hr.len
 exact packet_nack A n cc (1) 205 (wr1 (mkNA 1 so me L)) (mkNA 0 so me L) w ht hw hr (by omega) (by omega) (by omega) f0 f1 (by decide) ⟨rfl, fun g W h => by
  rw [f2, hb] at h
  exact nack_any g _ L.length so me L W hso hme rfl h1 h16 hL h⟩

theorem pk_pl (so me : Nat) (hso : so < 4294967296) (hme : me < 4294967296) : PacketIs (wr1 (mkPL 2 so me)) (mkPL 2 so me) := by
 have hb : bodyC (mkPL 2 so me) = bPL so me := rfl
 have h4 : (bodyC (mkPL 2 so me)).length % 4 = 0 := by
  rw [hb]
  simp [bPL, length_beb]
 have hl : (bodyC (mkPL 2 so me)).length ≤ 262140 := by
  rw [hb]
  simp [bPL, length_beb]
 obtain ⟨f0, f1, f2, f3, f4⟩ := wr1_facts (mkPL 2 so me) (1) 206 rfl rfl (by omega) (by omega) h4 hl
 refine ⟨⟨_, f3, f4.symm⟩, fun A n cc w ht hw hr => ?_⟩
 have hn := hr.len
 exact packet_pli A n cc (1) 206 (wr1 (mkPL 2 so me)) (mkPL 0 so me) w ht hw hr (by omega) (by omega) (by omega) f0 f1 (by decide) ⟨rfl, fun g W h => by
  rw [f2, hb] at h
  exact pli_any g _ so me W hso hme h⟩

theorem pk_fi (so : Nat) (L : List (Nat × Nat)) (hso : so < 4294967296) (h1 : 1 ≤ L.length) (h16 : L.length ≤ 16) (hL : ∀ x ∈ L, x.1 < 4294967296 ∧ x.2 < 256) : PacketIs (wr1 (mkFI 3 so L)) (mkFI 3 so L) := by
 have hb : bodyC (mkFI 3 so L) = bFI so L := rfl
 have h4 : (bodyC (mkFI 3 so L)).length % 4 = 0 := by
  rw [hb]
  simp only [bFI, List.length_append, length_beb]
  have := flat_four firB (fun x => by rw [firB_len]) L
  omega
 have hl : (bodyC (mkFI 3 so L)).length ≤ 262140 := by
  rw [hb]
  simp only [bFI, List.length_append, length_beb]
  have := body_le firB 8 L (fun x _ => by rw [firB_len]; omega) h16
  omega
 obtain ⟨f0, f1, f2, f3, f4⟩ := wr1_facts (mkFI 3 so L) (4) 206 rfl rfl (by omega) (by omega) h4 hl
 refine ⟨⟨_, f3, f4.symm⟩, fun A n cc w ht hw hr => ?_⟩
 have hn := hr.len
 exact packet_fir A n cc (4) 206 (wr1 (mkFI 3 so L)) (mkFI 0 so L) w ht hw hr (by omega) (by omega) (by omega) f0 f1 (by decide) ⟨rfl, fun g W h => by
  rw [f2, hb] at h
  exact fir_any g _ L.length so L W hso rfl h1 h16 hL h⟩

theorem pk_re (so : Nat) (L : List Nat) (ra : Nat) (hso : so < 4294967296) (h16 : L.length ≤ 16) (hL : ∀ x ∈ L, x < 4294967296) (hra : ra < 9223372036854775808) (hex : rM ra * 2 ^ rE ra = ra) : PacketIs (wr1 (mkRE 4 so L ra)) (mkRE 4 so L ra) := by
 have hb : bodyC (mkRE 4 so L ra) = bRE so L (rM ra) (rE ra) := rfl
 have h4 : (bodyC (mkRE 4 so L ra)).length % 4 = 0 := by
  rw [hb]
  simp only [bRE, List.length_append, length_beb, letB, List.length_cons, List.length_nil]
  have := flat_four (beb 4) beb4_len L
  omega
 have hl : (bodyC (mkRE 4 so L ra)).length ≤ 262140 := by
  rw [hb]
  simp only [bRE, List.length_append, length_beb, letB, List.length_cons, List.length_nil]
  have := body_le (beb 4) 4 L (fun x _ => by rw [length_beb]; omega) h16
  omega
 obtain ⟨f0, f1, f2, f3, f4⟩ := wr1_facts (mkRE 4 so L ra) (15) 206 rfl rfl (by omega) (by omega) h4 hl
 refine ⟨⟨_, f3, f4.symm⟩, fun A n cc w ht hw hr => ?_⟩
 have hn := hr.len
 exact packet_remb A n cc (15) 206 (wr1 (mkRE 4 so L ra)) (mkRE 0 so L ra) w ht hw hr (by omega) (by omega) (by omega) f0 f1 (by decide) ⟨rfl, fun g W h => by
  rw [f2, hb] at h
  exact remb_any g _ L.length so (rM ra) (rE ra) ra L W hso rfl h16 hL (rM_lt ra (by omega)) (by have := rE_lt ra (by omega); omega) hex.symm (by rw [hex]; exact hra) h⟩

theorem pk_any (c : Ctl) (hf : c.fit) (hm : mayC c) : PacketIs (wr1 c) c := by
 obtain ⟨_, f1, f2, f3, f4, f5, f6, fR, fN, fS, fL, fF, f7⟩ := hf
 rcases hm with ⟨so, ti, st, pa, oc, L, rfl, h16, hk⟩ | ⟨so, L, rfl, h16, hk⟩ | ⟨L, rfl, h16, hk⟩ | ⟨L, rfl, h16⟩ | ⟨so, me, L, rfl, h1, h16⟩ | ⟨so, me, rfl⟩ | ⟨so, L, rfl, h1, h16⟩ | ⟨so, L, ra, rfl, h16, hra, hex⟩
 · exact pk_sr so ti st pa oc L f1 f3 f4 f5 f6 h16 (fun x hx => ⟨fR x hx, hk x hx⟩)
 · exact pk_rr so L f1 h16 (fun x hx => ⟨fR x hx, hk x hx⟩)
 · exact pk_sd L h16 (fun x hx => ⟨fN x hx, hk x hx⟩)
 · exact pk_by L h16 fS
 · exact pk_na so me L f1 f2 h1 h16 fL
 · exact pk_pl so me f1 f2
 · exact pk_fi so L f1 h1 h16 fF
 · exact pk_re so L ra f1 h16 fS hra hex
theorem or_128 : ∀ Q : Nat, Q < 32 → 128 ||| Q = 128 + Q := by decide
theorem head_may (c : Ctl) (hm : mayC c) : ∃ S Q : Nat, typC c = S ∧ cntC c = Q ∧ S < 256 ∧ Q < 32 ∧ ∀ (cs : List Value) (W : World), CtRd W cs c → Tab W → 0 < W.heap.size → Calls Tryz.prog 52 #[.agg cs.toArray] W fun r w' => r = .returned (.tuple #[.int .i64 (S : Int), .int .i64 (Q : Int)]) ∧ Below W.heap.size W w' := by
 rcases hm with ⟨so, ti, st, pa, oc, L, rfl, h16, hk⟩ | ⟨so, L, rfl, h16, hk⟩ | ⟨L, rfl, h16, hk⟩ | ⟨L, rfl, h16⟩ | ⟨so, me, L, rfl, h1, h16⟩ | ⟨so, me, rfl⟩ | ⟨so, L, rfl, h1, h16⟩ | ⟨so, L, ra, rfl, h16, hra, hex⟩
 · exact ⟨200, L.length, rfl, rfl, by omega, by omega, fun cs W h ht hw => head_big cs _ W h ht hw 200 rfl L.length (by simp [longN, mkSR]) (by decide) (by decide) (by decide) (by decide)⟩
 · exact ⟨201, L.length, rfl, rfl, by omega, by omega, fun cs W h ht hw => head_big cs _ W h ht hw 201 rfl L.length (by simp [longN, mkRR]) (by decide) (by decide) (by decide) (by decide)⟩
 · exact ⟨202, L.length, rfl, by simp [cntC, mkSD], by omega, by omega, fun cs W h ht hw => head_big cs _ W h ht hw 202 rfl L.length (by simp [longN, mkSD]) (by decide) (by decide) (by decide) (by decide)⟩
 · exact ⟨203, L.length, rfl, by simp [cntC, mkBY], by omega, by omega, fun cs W h ht hw => head_big cs _ W h ht hw 203 rfl L.length (by simp [longN, mkBY]) (by decide) (by decide) (by decide) (by decide)⟩
 · exact ⟨205, 1, rfl, rfl, by omega, by omega, fun cs W h ht hw => head_1 cs _ W h ht hw rfl⟩
 · exact ⟨206, 1, rfl, rfl, by omega, by omega, fun cs W h ht hw => head_2 cs _ W h ht hw rfl⟩
 · exact ⟨206, 4, rfl, rfl, by omega, by omega, fun cs W h ht hw => head_3 cs _ W h ht hw rfl⟩
 · exact ⟨206, 15, rfl, rfl, by omega, by omega, fun cs W h ht hw => head_4 cs _ W h ht hw rfl⟩
theorem body_may (c : Ctl) (hf : c.fit) (hm : mayC c) (cs : List Value) (w : World) (h : CtRd w cs c) : Calls Tryz.prog 53 #[.agg cs.toArray] w (BodyTold w (bodyC c)) := by
 rcases hm with ⟨so, ti, st, pa, oc, L, rfl, h16, hk⟩ | ⟨so, L, rfl, h16, hk⟩ | ⟨L, rfl, h16, hk⟩ | ⟨L, rfl, h16⟩ | ⟨so, me, L, rfl, h1, h16⟩ | ⟨so, me, rfl⟩ | ⟨so, L, rfl, h1, h16⟩ | ⟨so, L, ra, rfl, h16, hra, hex⟩
 · exact body_200 cs _ w h rfl hf h16 hk
 · exact body_201 cs _ w h rfl hf h16 hk
 · exact body_202 cs _ w h rfl hf h16 hk
 · exact body_203 cs _ w h rfl hf h16
 · exact body_1 cs _ w h rfl hf h16
 · exact body_2 cs _ w h rfl hf
 · exact body_3 cs _ w h rfl hf h16
 · exact body_4 cs _ w h rfl hf h16
theorem wr1_len (c : Ctl) : (wr1 c).length = 4 + (bodyC c).length := by simp [wr1, length_beb]; omega
theorem body_small (c : Ctl) (hf : c.fit) (hm : mayC c) : (bodyC c).length ≤ 262144 := by
 obtain ⟨⟨m, h1, h2⟩, _⟩ := pk_any c hf hm
 have h3 := numb_lt (((wr1 c).drop 2).take 2)
 rw [h1] at h3
 have h4 : (((wr1 c).drop 2).take 2).length ≤ 2 := by rw [List.length_take]; omega
 have h5 : 256 ^ (((wr1 c).drop 2).take 2).length ≤ 256 ^ 2 := Nat.pow_le_pow_right (by omega) h4
 have h6 := wr1_len c
 omega

set_option maxRecDepth 100000 in
set_option maxHeartbeats 1000000 in
theorem packetBytes_any (cs : List Value) (c : Ctl) (w : World) (h : CtRd w cs c) (ht : Tab w) (hw : 0 < w.heap.size) (hf : c.fit) (hm : mayC c) (N : Nat) (hN : N = (wr1 c).length) :
 Calls Tryz.prog 30 #[.agg cs.toArray] w fun e w' => ∃ A' c', e = .returned (.slice A' N c') ∧ RdS w' A' N c' (wr1 c) ∧ Below w.heap.size w w' := by
 obtain ⟨S, Q, hS, hQ, lS, lQ, hH⟩ := head_may c hm
 have hBd := body_may c hf hm
 have hle := body_small c hf hm
 have hT0 : wr1 c = beb 1 (128 + Q) ++ beb 1 S ++ beb 2 ((bodyC c).length / 4) ++ bodyC c := by unfold wr1; rw [hS, hQ]; simp
 obtain ⟨T, hT⟩ : ∃ T, T = bodyC c := ⟨_, rfl⟩
 unfold BodyTold at hBd
 rw [← hT] at hBd hle hT0
 obtain ⟨M, hM⟩ : ∃ M, M = T.length := ⟨_, rfl⟩
 rw [← hM] at hBd hle hT0
 obtain ⟨Z, hZ⟩ : ∃ Z, Z = M / 4 := ⟨_, rfl⟩
 rw [← hZ] at hT0
 have hNM : N = M + 4 := by rw [hN, wr1_len, ← hT, ← hM]; omega
 have HT := Lib.hid hT0
 obtain ⟨hB0, hC0, b0⟩ := box_facts w cs c h
 have ht0 := ht.below b0 hw
 have hw0 : 0 < (w.alloc (.cells cs.toArray 58)).heap.size := Nat.lt_of_lt_of_le hw b0.size
 have HH : Hid (Calls Tryz.prog 52 #[.agg cs.toArray] (w.alloc (.cells cs.toArray 58)) fun r w' => r = .returned (.tuple #[.int .i64 (S : Int), .int .i64 (Q : Int)]) ∧ Below (w.alloc (.cells cs.toArray 58)).heap.size (w.alloc (.cells cs.toArray 58)) w') := Lib.hid (hH cs _ hC0 ht0 hw0)
 have HB : Hid (∀ W, CtRd W cs c → Calls Tryz.prog 53 #[.agg cs.toArray] W fun e w' => ∃ A' c', e = .returned (.slice A' M c') ∧ RdS w' A' M c' T ∧ Below W.heap.size W w') := Lib.hid (fun W hW => hBd cs W hW)
 obtain ⟨A, a, B, b', C, c', D, d, E, e, h0, -⟩ := h
 subst h0
 unfold ctlC at hC0 hB0 b0 HH HB ⊢
 have C0 := Lib.hid hC0
 have V0 := Lib.hid hB0
 have B0 := Lib.hid b0
 clear hC0 hB0 b0 ht0 hw0 ht hw hH hBd hf hm hS hQ hT hM hT0
 have e1 : IntKind.u64.wrap (Q : Int) = (Q : Int) := by rw [IntKind.wrap_u64]; omega
 have e2 : bits BinOp.or IntKind.u64 128 (Q : Int) = ((128 + Q : Nat) : Int) := by rw [← or_128 Q lQ]; exact u64_or_nat 128 Q (by omega) (by omega)
 obtain ⟨Y, hY⟩ : ∃ Y, Y = 128 + Q := ⟨_, rfl⟩
 rw [← hY] at e2 HT
 have e3 : IntKind.u64.wrap (S : Int) = (S : Int) := by rw [IntKind.wrap_u64]; omega
 have e4 : IntKind.i64.wrap ((M : Int) / 4) = (Z : Int) := by rw [IntKind.wrap_i64]; omega
 have e5 : IntKind.u64.wrap (Z : Int) = (Z : Int) := by rw [IntKind.wrap_u64]; omega
 have e7 : IntKind.i64.wrap (Z : Int) = (Z : Int) := by rw [IntKind.wrap_i64]; omega
 have HP1 : Hid (∀ W, Calls Tryz.prog 35 #[.slice none 0 0, .int .i64 1, .int .u64 (Y : Int)] W fun e w' => ∃ A' c', e = .returned (.slice A' 1 c') ∧ BO W w' A' 1 c' (beb 1 Y) ∧ Below W.heap.size W w') := Lib.hid (fun W => putNil_bo W 1 Y _ _ rfl rfl (by omega) (by omega) (by omega))
 have HP2 : Hid (∀ W0 W A c, BO W0 W A 1 c (beb 1 Y) → Calls Tryz.prog 35 #[.slice A 1 c, .int .i64 1, .int .u64 (S : Int)] W fun e w' => ∃ A' c', e = .returned (.slice A' 2 c') ∧ BO W0 w' A' 2 c' (beb 1 Y ++ beb 1 S) ∧ Below W.heap.size W w') := Lib.hid (fun W0 W A c hb => put_bo W0 W A 1 c 2 _ 1 S _ _ rfl rfl rfl hb (by omega) (by omega) (by omega) (by omega))
 have HP3 : Hid (∀ W0 W A c, BO W0 W A 2 c (beb 1 Y ++ beb 1 S) → Calls Tryz.prog 35 #[.slice A 2 c, .int .i64 2, .int .u64 (Z : Int)] W fun e w' => ∃ A' c', e = .returned (.slice A' 4 c') ∧ BO W0 w' A' 4 c' (beb 1 Y ++ beb 1 S ++ beb 2 Z) ∧ Below W.heap.size W w') := Lib.hid (fun W0 W A c hb => put_bo W0 W A 2 c 4 _ 2 Z _ _ rfl rfl rfl hb (by omega) (by omega) (by omega) (by omega))
 have LM : Hid (M ≤ 262144) := Lib.hid hle
 have hM62 : (M : Int) ≤ 262144 := by omega
 clear hZ hY lS lQ
 go_enter Tryz.func30, Tryz.ntmps30
 go_wp2_with (first
  | (go_at_call 52; ((with_reducible refine (Hid.out HH).mono ?_); rintro r w1 ⟨rfl, hb⟩; have B1 := Lib.hid (B0.out.trans (hb.mono B0.out.size)); have V1 := Lib.hid (V0.out.below hb V0.out.lt); have C1 := Lib.hid (C0.out.below hb); have G1 := Lib.hid (V1.out.range 0 [.int .i64 c.k, .int .u32 (c.so : Int), .int .u32 (c.me : Int), .int .u64 (c.ti : Int), .int .u32 (c.st : Int), .int .u32 (c.pa : Int), .int .u32 (c.oc : Int), .slice A c.reps.length a, .slice B c.nams.length b', .slice C c.srcs.length c', .slice D c.loss.length d, .slice E c.firs.length e, .int .u64 (c.ra : Int)] (fun i _ => by rw [Nat.zero_add])); clear hb))
  | (with_reducible refine wpList_ld rfl 58 (.tmp 1) rfl w.heap.size 0 rfl [.int .i64 c.k, .int .u32 (c.so : Int), .int .u32 (c.me : Int), .int .u64 (c.ti : Int), .int .u32 (c.st : Int), .int .u32 (c.pa : Int), .int .u32 (c.oc : Int), .slice A c.reps.length a, .slice B c.nams.length b', .slice C c.srcs.length c', .slice D c.loss.length d, .slice E c.firs.length e, .int .u64 (c.ra : Int)] G1.out (rowCtl rfl) ?_)
  | (go_at_call 53; ((with_reducible refine (Hid.out HB _ C1.out).mono ?_); rintro r w2 ⟨A2, c2, rfl, hr, hb⟩; have B2 := Lib.hid (B1.out.trans (hb.mono B1.out.size)); have R2 := Lib.hid hr; clear hb hr))
  | (go_at_call 35; ((with_reducible refine (Hid.out HP1 _).mono ?_); rintro r w3 ⟨A3, c3, rfl, hbo, hb⟩; have O3 := Lib.hid hbo; have R3 := Lib.hid (R2.out.below hb); clear hbo hb))
  | (go_at_call 35; ((with_reducible refine (Hid.out HP2 _ _ _ _ O3.out).mono ?_); rintro r w4 ⟨A4, c4, rfl, hbo, hb⟩; have O4 := Lib.hid hbo; have R4 := Lib.hid (R3.out.below hb); clear hbo hb))
  | (go_at_call 35; ((with_reducible refine (Hid.out HP3 _ _ _ _ O4.out).mono ?_); rintro r w5 ⟨A5, c5, rfl, hbo, hb⟩; have O5 := Lib.hid hbo; have R5 := Lib.hid (R4.out.below hb); clear hbo hb))
  | (at_builtin; refine wpList_append_rd _ rfl (.tmp 28) (.tmp 29) rfl Tryz.underlying32 u8_info w2.heap.size (.slice A5 4 c5) 4 (beb 1 Y ++ beb 1 S ++ beb 2 Z) rfl O5.out.1 A2 M c2 T rfl R5.out (by omega) O5.out.2.size ?_; intro v6 w6 hown6 hg6 _; obtain ⟨A6, c6, hv6⟩ := own_formN hown6; subst hv6; have O6 := Lib.hid (O5.out.more hown6 hg6); clear hown6 hg6))
 go_ret
 have h4 : 4 + M = N := by omega
 rw [HT.out]
 rw [h4] at O6
 exact ⟨A6, c6, by rw [← h4]; rfl, O6.out.rd, B2.out.trans (O6.out.2.mono B2.out.size)⟩
def CtRds (w : World) (A : Option Addr) (l : List Ctl) : Prop := ∃ css : List (List Value), css.length = l.length ∧ RdG 13 w A (css.map id) ∧ ∀ (i : Nat) (cs : List Value) (c : Ctl), css[i]? = some cs → l[i]? = some c → CtRd w cs c
theorem CtRds.below {w w' : World} {A : Option Addr} {l : List Ctl} (h : CtRds w A l) (hb : Below w.heap.size w w') : CtRds w' A l := by
 obtain ⟨css, h1, h2, h3⟩ := h
 exact ⟨css, h1, h2.below hb, fun i cs c hi hj => (h3 i cs c hi hj).below hb⟩
theorem CtRds.at_ {w : World} {A : Option Addr} {l : List Ctl} (h : CtRds w A l) {k : Nat} (hk : k < l.length) : ∃ b off cs, A = some ⟨b, off, none⟩ ∧ CtRd w cs l[k] ∧ ∀ wx, Below w.heap.size w wx → wx.rangeAt b (off + k * 13) cs := by
 obtain ⟨css, h1, h2, h3⟩ := h
 have hkl : k < css.length := by omega
 obtain ⟨b, off, hA, hr⟩ := h2.at_ hkl
 exact ⟨b, off, css[k], hA, h3 k css[k] l[k] (List.getElem?_eq_getElem hkl) (List.getElem?_eq_getElem hk), hr⟩
theorem OwnCs.rds {w : World} {b n c : Nat} {A : Option Addr} {l : List Ctl} (h : OwnCs w b (.slice A n c) l) (hn : l.length = n) : CtRds w A l := by
 obtain ⟨css, h1, h2, h3⟩ := h
 have hx : ∀ i cs c, css[i]? = some cs → l[i]? = some c → CtRd w cs c := fun i cs c hi hj => (h3 i cs c hi hj).rd
 refine ⟨css, h2, RdG.of_own (e := 58) (base := b) (n := n) (c := c) (by rw [show css.flatMap id = css.flatten from by simp [List.flatMap]]; rw [hn] at h1; exact h1) (by rw [h2, hn]) (fun x hxm => ?_), hx⟩
 obtain ⟨i, hi, rfl⟩ := List.getElem_of_mem hxm
 have hil : i < l.length := by omega
 exact (hx i css[i] l[i] (List.getElem?_eq_getElem hi) (List.getElem?_eq_getElem hil)).len
def wOK (l : List Ctl) : Prop := (1 ≤ l.length ∧ l.length ≤ 8) ∧ (∀ c ∈ l, mayC c) ∧ (wrL l).length ≤ 1200
def WTold (l : List Ctl) (w : World) (e : Ending) (w' : World) : Prop :=
 (wOK l → ∃ A' c' N, N = (wrL l).length ∧ e = .returned (.tuple #[.slice A' N c', .int .i64 0]) ∧ RdS w' A' N c' (wrL l) ∧ Below w.heap.size w w') ∧ (¬ wOK l → e = .returned (.tuple #[.slice none 0 0, .int .i64 1]) ∧ Below w.heap.size w w')
theorem WTold.no {l : List Ctl} {w w' : World} (h : ¬ wOK l) (hb : Below w.heap.size w w') : WTold l w (.returned (.tuple #[.slice none 0 0, .int .i64 1])) w' := ⟨fun h2 => absurd h2 h, fun _ => ⟨rfl, hb⟩⟩
def WOwn (l : List Ctl) (w : World) (e : Ending) (w' : World) : Prop :=
 (wOK l → ∃ A' c' N, N = (wrL l).length ∧ e = .returned (.tuple #[.slice A' N c', .int .i64 0]) ∧ BO w w' A' N c' (wrL l)) ∧ (¬ wOK l → e = .returned (.tuple #[.slice none 0 0, .int .i64 1]) ∧ Below w.heap.size w w')
theorem WOwn.no {l : List Ctl} {w w' : World} (h : ¬ wOK l) (hb : Below w.heap.size w w') : WOwn l w (.returned (.tuple #[.slice none 0 0, .int .i64 1])) w' := ⟨fun h2 => absurd h2 h, fun _ => ⟨rfl, hb⟩⟩
theorem WOwn.told {l : List Ctl} {w w' : World} {e : Ending} (h : WOwn l w e w') : WTold l w e w' :=
 ⟨fun k => by
  obtain ⟨A', c', N, h1, h2, h3⟩ := h.1 k
  exact ⟨A', c', N, h1, h2, h3.rd, h3.2⟩, h.2⟩
theorem wrL_snoc {l : List Ctl} {k : Nat} (h : k < l.length) : wrL (l.take (k + 1)) = wrL (l.take k) ++ wr1 l[k] := flat_snoc wr1 h
theorem takeP_snoc {l : List Ctl} {P : Ctl → Prop} {k : Nat} (h : k < l.length) (h1 : ∀ c ∈ l.take k, P c) (h2 : P l[k]) : ∀ c ∈ l.take (k + 1), P c := by
 rw [List.take_add_one, List.getElem?_eq_getElem h]
 intro c hc
 rcases List.mem_append.1 hc with hc | hc
 · exact h1 c hc
 · simp at hc; subst hc; exact h2

set_option maxRecDepth 100000 in
set_option maxHeartbeats 1000000 in
theorem write_short (A : Option Addr) (n c : Nat) (l : List Ctl) (w : World) (hn : l.length = n) (hl : ¬ (1 ≤ n ∧ n ≤ 8)) :
 Calls Tryz.prog 17 #[.slice A n c] w (WOwn l w) := by
 have HNO : Hid (¬ wOK l) := Lib.hid (fun h => hl (by rw [← hn]; exact h.1))
 have hw : n = 0 ∨ 8 < n := by omega
 clear hn hl
 rcases hw with rfl | h8
 · go_enter Tryz.func17, Tryz.ntmps17
   go_wp2
   go_ret2
   exact WOwn.no HNO.out (Below.refl _ _)
 · go_enter Tryz.func17, Tryz.ntmps17
   go_wp2
   go_ret2
   exact WOwn.no HNO.out (Below.refl _ _)

set_option maxRecDepth 100000 in
set_option maxHeartbeats 2000000 in
theorem write_long (A : Option Addr) (n c : Nat) (l : List Ctl) (w : World) (h : CtRds w A l) (hn : l.length = n) (ht : Tab w) (hw : 0 < w.heap.size) (hf : ∀ c ∈ l, c.fit) (h1 : 1 ≤ n) (h8 : n ≤ 8) :
 Calls Tryz.prog 17 #[.slice A n c] w (WOwn l w) := by
 have HR := Lib.hid h
 have HN := Lib.hid hn
 have HT := Lib.hid ht
 have HF := Lib.hid hf
 have HW := Lib.hid hw
 clear h hn ht hf hw
 go_enter Tryz.func17, Tryz.ntmps17
 go_wp2
 go_loopw [4, 17] (fun v i wr => ∃ (k M : Nat) (A' : Option Addr) (c' : Nat), k ≤ n ∧ i = .int .i64 k ∧ v = .slice A' M c' ∧ Hid (M ≤ 262148 * k ∧ BO w wr A' M c' (wrL (l.take k)) ∧ ∀ c ∈ l.take k, mayC c)) (fun _ i _ => n - (intOf i).toNat)
 case atStart => exact ⟨0, 0, none, 0, by omega, rfl, rfl, Lib.hid ⟨by omega, BO.nil w, by simp⟩⟩
 case round =>
  obtain ⟨k, M, A1, c1, hk, rfl, rfl, HL⟩ := hrel
  by_cases hkn : k < n
  · have hkl : k < l.length := by rw [HN.out]; exact hkn
    obtain ⟨b, off, cs, rfl, hC, hat⟩ := HR.out.at_ hkl
    have hxf := HF.out _ (List.getElem_mem hkl)
    have HV := Lib.hid (wrL_snoc hkl)
    have HG := Lib.hid (hat wr HL.out.2.1.2)
    have HCr := Lib.hid (hC.below HL.out.2.1.2)
    have HB := Lib.hid HL.out.2.1.2
    have hf13 : Hid (0 + cs.length ≤ zCtl.length) := Lib.hid (fit13 hC.len)
    by_cases hm : mayC l[k]
    · have HS : Hid (∀ c ∈ l.take (k + 1), mayC c) := Lib.hid (takeP_snoc hkl HL.out.2.2 hm)
      obtain ⟨x, hx⟩ : ∃ x, x = l[k] := ⟨_, rfl⟩
      rw [← hx] at hxf HV HCr hm
      clear hC
      obtain ⟨N, hN⟩ : ∃ N, N = (wr1 x).length := ⟨_, rfl⟩
      have hNle : N ≤ 262148 := by have h1 := body_small x hxf hm; have h2 := wr1_len x; omega
      have HM : Hid (∀ W, CtRd W cs x → Calls Tryz.prog 29 #[.agg cs.toArray] W fun r w' => r = .returned (.bool true) ∧ Below W.heap.size W w') := Lib.hid (fun W hW => mayBe_any cs x W hW hxf true ⟨fun _ => (mayK_iff x).2 hm, fun _ => rfl⟩)
      have HP : Hid (∀ W, CtRd W cs x → Below w.heap.size w W → Calls Tryz.prog 30 #[.agg cs.toArray] W fun e w' => ∃ A' c', e = .returned (.slice A' N c') ∧ RdS w' A' N c' (wr1 x) ∧ Below W.heap.size W w') := Lib.hid (fun W hW hb => packetBytes_any cs x W hW (HT.out.below hb HW.out) (Nat.lt_of_lt_of_le HW.out hb.size) hxf hm N hN)
      have HNL := Lib.hid hNle
      obtain ⟨T, hT⟩ : ∃ T, T = wrL (l.take k) := ⟨_, rfl⟩
      have O0 : Hid (BO w wr A1 M c1 T) := Lib.hid (by rw [hT]; exact HL.out.2.1)
      have HML := Lib.hid HL.out.1
      rw [← hT] at HV
      have HMM : Hid (M + N ≤ 1000000000) := Lib.hid (by have := HML.out; omega)
      clear HL hx hT hN hNle hat hxf hm
      go_wp2_with (first
       | (with_reducible refine wpList_ld rfl 58 (.tmp 19) rfl b (off + k * 13) rfl cs HG.out (rowCtl HCr.out.len) ?_)
       | ((refine wpList_st rfl 58 (.tmp 6) (.tmp 20) rfl wr.heap.size 0 cs rfl rfl 58 zCtl (BlkV.new wr _ _) hf13.out (rowCtl HCr.out.len) HCr.out.one ?_); intro w1 hB1 ho1; rw [splice_all _ _ (by rw [HCr.out.len]; rfl)] at hB1; have b1 : Hid (Below wr.heap.size wr w1) := Lib.hid (((Below.refl _ _).alloc (Nat.le_refl _) _).trans (ho1.below (Nat.le_refl _))); have V1 := Lib.hid hB1; have G1 := Lib.hid (V1.out.range 0 cs (fun i _ => by rw [Nat.zero_add])); have C1 := Lib.hid (HCr.out.below b1.out); have O1 := Lib.hid (O0.out.below b1.out); clear hB1 ho1)
       | (with_reducible refine wpList_ld rfl 58 (.tmp 6) rfl wr.heap.size 0 rfl cs G1.out (rowCtl C1.out.len) ?_)
       | (go_at_call 29; ((with_reducible refine (Hid.out HM _ C1.out).mono ?_); rintro r w2 ⟨rfl, hb⟩; have V2 := Lib.hid (V1.out.below hb V1.out.lt); have G2 := Lib.hid (V2.out.range 0 cs (fun i _ => by rw [Nat.zero_add])); have C2 := Lib.hid (C1.out.below hb); have O2 := Lib.hid (O1.out.below hb); have B2 := Lib.hid O2.out.2; clear hb))
       | (with_reducible refine wpList_ld rfl 58 (.tmp 6) rfl wr.heap.size 0 rfl cs G2.out (rowCtl C2.out.len) ?_)
       | (go_at_call 30; ((with_reducible refine (Hid.out HP _ C2.out B2.out).mono ?_); rintro r w3 ⟨A3, c3, rfl, hr, hb⟩; have R3 := Lib.hid hr; have O3 := Lib.hid (O2.out.below hb); clear hr hb))
       | (at_builtin; refine wpList_append_rd _ rfl (.tmp 24) (.tmp 26) rfl Tryz.underlying32 u8_info w.heap.size (.slice A1 M c1) M T rfl O3.out.1 A3 N c3 (wr1 x) rfl R3.out (by have := HMM.out; omega) O3.out.2.size ?_; intro v6 w6 hown6 hg6 _; obtain ⟨A6, c6, hv6⟩ := own_formN hown6; subst hv6; have O6 := Lib.hid (O3.out.more hown6 hg6); clear hown6 hg6))
      go_roundw
      case rel => exact ⟨k + 1, M + N, A6, c6, by omega, by go_num, rfl, Lib.hid ⟨by have h1 := HML.out; have h2 := HNL.out; omega, by rw [HV.out]; exact O6.out, HS.out⟩⟩
      case measure => simp [intOf]; omega
    · have HNO : Hid (¬ wOK l) := Lib.hid (fun h => hm (h.2.1 _ (List.getElem_mem hkl)))
      obtain ⟨x, hx⟩ : ∃ x, x = l[k] := ⟨_, rfl⟩
      rw [← hx] at hxf HCr hm
      have HM : Hid (∀ W, CtRd W cs x → Calls Tryz.prog 29 #[.agg cs.toArray] W fun r w' => r = .returned (.bool false) ∧ Below W.heap.size W w') := Lib.hid (fun W hW => mayBe_any cs x W hW hxf false ⟨fun h => absurd h (by decide), fun h => absurd ((mayK_iff x).1 h) hm⟩)
      clear HL hx hat hxf hm hC HV
      go_wp2_with (first
       | (with_reducible refine wpList_ld rfl 58 (.tmp 19) rfl b (off + k * 13) rfl cs HG.out (rowCtl HCr.out.len) ?_)
       | ((refine wpList_st rfl 58 (.tmp 6) (.tmp 20) rfl wr.heap.size 0 cs rfl rfl 58 zCtl (BlkV.new wr _ _) hf13.out (rowCtl HCr.out.len) HCr.out.one ?_); intro w1 hB1 ho1; rw [splice_all _ _ (by rw [HCr.out.len]; rfl)] at hB1; have b1 : Hid (Below wr.heap.size wr w1) := Lib.hid (((Below.refl _ _).alloc (Nat.le_refl _) _).trans (ho1.below (Nat.le_refl _))); have V1 := Lib.hid hB1; have G1 := Lib.hid (V1.out.range 0 cs (fun i _ => by rw [Nat.zero_add])); have C1 := Lib.hid (HCr.out.below b1.out); clear hB1 ho1)
       | (with_reducible refine wpList_ld rfl 58 (.tmp 6) rfl wr.heap.size 0 rfl cs G1.out (rowCtl C1.out.len) ?_)
       | (go_at_call 29; ((with_reducible refine (Hid.out HM _ C1.out).mono ?_); rintro r w2 ⟨rfl, hb⟩; have b2 := Lib.hid (HB.out.trans ((b1.out.trans (hb.mono b1.out.size)).mono HB.out.size)); clear hb)))
      go_ret2
      exact WOwn.no HNO.out b2.out
  · obtain rfl : k = n := by omega
    rw [show l.take k = l by rw [← HN.out, List.take_length]] at HL
    have hM : M = (wrL l).length := HL.out.2.1.len.symm
    by_cases hbig : (1200 : Int) < (M : Int)
    · have HNO : Hid (¬ wOK l) := Lib.hid (fun h => by have := h.2.2; omega)
      have HB := Lib.hid HL.out.2.1.2
      clear HL hM
      go_wp2
      go_ret2
      exact WOwn.no HNO.out HB.out
    · have HOK : Hid (wOK l) := Lib.hid ⟨by rw [HN.out]; exact ⟨h1, h8⟩, HL.out.2.2, by omega⟩
      have HM := Lib.hid hM
      have HO := Lib.hid HL.out.2.1
      clear HL hM
      go_wp2
      go_ret2
      exact ⟨fun _ => ⟨A1, c1, M, HM.out, rfl, HO.out⟩, fun h => absurd HOK.out h⟩

theorem write_own11 (A : Option Addr) (n c : Nat) (l : List Ctl) (w : World) (h : CtRds w A l) (hn : l.length = n) (ht : Tab w) (hw : 0 < w.heap.size) (hf : ∀ c ∈ l, c.fit) :
 Calls Tryz.prog 17 #[.slice A n c] w (WOwn l w) := by
 by_cases hl : 1 ≤ n ∧ n ≤ 8
 · exact write_long A n c l w h hn ht hw hf hl.1 hl.2
 · exact write_short A n c l w hn hl
def mayS (l : List Ctl) : Prop := wOK l ∧ 8 ≤ (wrL l).length ∧ (wrL l).length ≤ 1186
noncomputable def whyS (s : Wc) (l : List Ctl) : Int := open Classical in if s.y.limit ≤ s.y.used ∨ 2147483648 ≤ s.nx then 7 else if ¬ mayS l then 1 else 0
noncomputable def outS (s : Wc) (l : List Ctl) : List UInt8 := open Classical in if whyS s l = 0 then sealC s.y (wrL l) s.nx.toNat else []
noncomputable def afterS (s : Wc) (l : List Ctl) : Wc := open Classical in if whyS s l = 0 then ⟨s.y.once, s.nx + 1⟩ else s
theorem whyS_7 {s : Wc} {l : List Ctl} (h : s.y.limit ≤ s.y.used ∨ 2147483648 ≤ s.nx) : whyS s l = 7 := by unfold whyS; rw [if_pos h]
theorem whyS_1 {s : Wc} {l : List Ctl} (h : ¬ (s.y.limit ≤ s.y.used ∨ 2147483648 ≤ s.nx)) (h2 : ¬ mayS l) : whyS s l = 1 := by unfold whyS; rw [if_neg h, if_pos h2]
theorem whyS_0 {s : Wc} {l : List Ctl} (h : ¬ (s.y.limit ≤ s.y.used ∨ 2147483648 ≤ s.nx)) (h2 : mayS l) : whyS s l = 0 := by unfold whyS; rw [if_neg h, if_neg (fun k => k h2)]
end Go.Proofs.YtheefckohnaceaaGreatDoor
