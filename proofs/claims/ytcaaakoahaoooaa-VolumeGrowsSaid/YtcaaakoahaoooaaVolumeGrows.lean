/-
  VolumeGrows: a volume that grows keeps its chunks, and where they are; one that shrinks and grows again has others; for every input. No condition but what the row says.
-/
import Derived.Test.YtcaaakoahaoooaaVolSev
import Derived.Test.YtcaaakoahaoooaaVolSame
import Derived.Test.YtcaaakoahaoooaaRows
import Derived.Test.YtcaaakoahaoooaaChecked
import Derived.Deep.DeepCutAuto
import Derived.Deep.RegionHeld3
namespace Go.Proofs.Ytcaaakoahaoooaa.VolumeGrows
open Go.ChangeShapes Go.WideShapes Go.ChangeAt Go.RowKit Go.Proofs.Ytcaaakoahaoooaa
set_option linter.unusedVariables false
set_option linter.unusedSimpArgs false

theorem bdS (j : Int) (w : World) : (bdCmd #[(0, .int .i64 1), (1, .int .i64 j), (2, .int .i64 9)]).run Try.prog w = .ok (cmdA (cS j)) w := by kernel_rfl
theorem bdMk (nb : Int) (w : World) : (bdCmd #[(0, .int .i64 2), (1, .int .i64 7), (2, .int .i64 nb), (3, .int .i64 2), (4, .agg #[.int .i64 0, .int .i64 1, .int .i64 0, .int .i64 0])]).run Try.prog w = .ok (cmdA (cMk nb)) w := by kernel_rfl
theorem bdRs (m : Int) (w : World) : (bdCmd #[(0, .int .i64 4), (1, .int .i64 7), (2, .int .i64 m)]).run Try.prog w = .ok (cmdA (cRs m)) w := by kernel_rfl
def bdPl (parts : Array (Nat × Value)) : Sem Value := Instr.build 29 parts
theorem bdPl_eq (parts : Array (Nat × Value)) : Instr.build 29 parts = bdPl parts := rfl
theorem bdPl_run (w : World) : (bdPl #[(1, .int .i64 1)]).run Try.prog w = .ok (.agg #[.int .i64 0, .int .i64 1, .int .i64 0, .int .i64 0]) w := by kernel_rfl
theorem own_app {w w' : World} {g B n : Nat} {v : Value} {xs : List Value} (h : w.ownsRow B 3 1 v n xs) (ht : Turned (fun k => k = g) w w') (hg : g + 1 ≤ B) : w'.ownsRow B 3 1 v n xs :=
  own_turnedM ht h fun k hk e => by have := (h.lt k hk).1; omega
/-- what a volume that grows, or shrinks, has -/
structure Grown (nn mm K M : Nat) (sV sR sA : St) : Prop where
  v : SevD 4 sV
  r : SevD 5 sR
  a : SevD 6 sA
  gv : GoodS 4 sV
  gr : GoodS 5 sR
  ga : GoodS 6 sA
  iv : idsK (sV.vs 7).ks = numsF 0 K
  ir : idsK (sR.vs 7).ks = (numsF 0 K).take M ++ numsF K (M - K)
  ia : idsK (sA.vs 7).ks = ((numsF 0 K).take M ++ numsF K (M - K)).take K ++ numsF ((K : Int) + ((M - K : Nat) : Int)) (K - M)
  fst : ∃ k r r', (sV.vs 7).ks = k :: r ∧ (sR.vs 7).ks = k :: r' ∧ k.id = 1
theorem numsF_length (md : Int) (q : Nat) : (numsF md q).length = q := by simp [numsF]
theorem numsF_get {md : Int} {q j : Nat} (h : j < q) : (numsF md q)[j]? = some (md + 1 + (j : Int)) := by
  unfold numsF
  rw [List.getElem?_map, List.getElem?_range h]
  rfl
theorem grown {nn mm : Nat} (hn : 1 ≤ nn ∧ nn ≤ 80) (hm : 1 ≤ mm ∧ mm ≤ 80) : ∃ (K M : Nat) (sV sR sA : St), countF nn = (K : Int) ∧ countF mm = (M : Int) ∧ 1 ≤ K ∧ 1 ≤ M ∧ K ≤ 10 ∧ M ≤ 10 ∧
    applyS (s3 3) (cMk nn) = (sV, 0) ∧ applyS sV (cRs mm) = (sR, 0) ∧ applyS sR (cRs nn) = (sA, 0) ∧ Grown nn mm K M sV sR sA := by
  obtain ⟨K, hK⟩ : ∃ K : Nat, countF nn = (K : Int) := ⟨(countF nn).toNat, by unfold countF; omega⟩
  obtain ⟨M, hM⟩ : ∃ M : Nat, countF mm = (M : Int) := ⟨(countF mm).toNat, by unfold countF; omega⟩
  have k1 : 1 ≤ K ∧ K ≤ 10 := by unfold countF at hK; omega
  have m1 : 1 ≤ M ∧ M ≤ 10 := by unfold countF at hM; omega
  obtain ⟨sV, a1, a2, a3, a4⟩ := mkV (nb := (nn : Int)) (by omega)
  obtain ⟨sR, b1, b2, ⟨F, b3⟩, b4, b5⟩ := a2.resize (by omega) (m := (mm : Int)) (by omega)
  obtain ⟨sA, c1, c2, ⟨F2, c3⟩, c4, c5⟩ := b2.resize (by omega) (m := (nn : Int)) (by omega)
  rw [hK, Int.toNat_natCast] at a3 c3 c4 c5
  rw [hM, Int.toNat_natCast] at b3 b4 b5
  rw [hK] at a4
  have lV : (sV.vs 7).ks.length = K := by
    have := congrArg List.length a3
    rw [numsF_length] at this
    simpa [idsK] using this
  rw [lV] at b4 b5
  rw [a3, a4] at b4
  rw [a4] at b5
  have lR : (sR.vs 7).ks.length = M := by
    have := congrArg List.length b4
    rw [List.length_append, List.length_take, numsF_length, numsF_length] at this
    have e : (idsK (sR.vs 7).ks).length = (sR.vs 7).ks.length := by simp [idsK]
    omega
  rw [lR] at c4
  rw [b4, b5] at c4
  have g1 := (applyS_good (good3 3 (by omega)) (by decide) (cMk_in (nb := (nn : Int)) (by omega))).1
  rw [a1] at g1
  have g2 := (applyS_good (n := 4) g1 (by decide) (cRs_in (m := (mm : Int)) (by omega))).1
  rw [b1] at g2
  have g3 := (applyS_good (n := 5) g2 (by decide) (cRs_in (m := (nn : Int)) (by omega))).1
  rw [c1] at g3
  refine ⟨K, M, sV, sR, sA, hK, hM, k1.1, m1.1, k1.2, m1.2, a1, b1, c1, a2, b2, c2, g1, g2, g3, a3, b4, c4, ?_⟩
  cases hk : (sV.vs 7).ks with
  | nil => rw [hk] at lV; simp at lV; omega
  | cons k r =>
    have hid : k.id = 1 := by
      have h1 := congrArg (fun l => l[0]?) a3
      simp only [hk, idsK, List.map_cons, List.getElem?_cons_zero] at h1
      rw [numsF_get (by omega)] at h1
      exact (Option.some.inj h1).trans (by simp)
    obtain ⟨M', rfl⟩ : ∃ M', M = M' + 1 := ⟨M - 1, by omega⟩
    rw [hk, List.take_succ_cons, List.cons_append] at b3
    exact ⟨k, r, _, rfl, b3, hid⟩

attribute [local go_sem ↓] bdCmd_eq
attribute [local go_sem ↓] bdPl_eq
attribute [local go_sem ↓] ldCk_eq
attribute [local go_sem ↓] stCk_eq
attribute [local go_sem ↓] stVo_eq
attribute [local irreducible] wpQuiet
set_option maxRecDepth 100000 in
set_option maxHeartbeats 8000000 in
theorem walk (a b : Int) (w : World) (ha : (Lit.int .u8 a).wf = true) (hb : (Lit.int .u8 b).wf = true) :
    Calls Try.prog 5 #[.int .u8 a, .int .u8 b] w fun e w' => e = .returned (.bool true) ∧ Below w.heap.size w w' := by
  obtain ⟨a0, a1⟩ := bounds_u8 ha
  obtain ⟨b0, b1⟩ := bounds_u8 hb
  have wa : IntKind.i64.wrap a = a := IntWalk.i64_in _ ⟨by omega, by omega⟩
  have wb : IntKind.i64.wrap b = b := IntWalk.i64_in _ ⟨by omega, by omega⟩
  obtain ⟨nn, hnn, nn1⟩ : ∃ nn : Nat, 1 + a % 80 = (nn : Int) ∧ (1 ≤ nn ∧ nn ≤ 80) := ⟨(1 + a % 80).toNat, by omega, by omega⟩
  obtain ⟨mm, hmm, mm1⟩ : ∃ mm : Nat, 1 + b % 80 = (mm : Int) ∧ (1 ≤ mm ∧ mm ≤ 80) := ⟨(1 + b % 80).toNat, by omega, by omega⟩
  obtain ⟨K, M, sV, sR, sA, hK, hM, K1, M1, K10, M10, e1, e2, e3, hG⟩ := grown nn1 mm1
  have KN := Lib.hid (VNew w)
  have KS := Lib.hid fun (j : Nat) (hj : j < 3) W (h : StAt W w.heap.size (s3 j)) => (by have := VApply w.heap.size (s3 j) (cS (j : Int)) W h ((good3 j (by omega)).ready (by omega) (by omega) (cS_in hj)); rw [mkS hj] at this; exact this : Calls Try.prog 11 #[.pointer (some ⟨w.heap.size, 0, none⟩), cmdA (cS (j : Int))] W (AppRet w.heap.size (s3 (j + 1), 0) W))
  have KM := Lib.hid fun W (h : StAt W w.heap.size (s3 3)) => VApply w.heap.size (s3 3) (cMk (nn : Int)) W h ((good3 3 (by omega)).ready (by decide) (by decide) (cMk_in (by omega)))
  have KR := Lib.hid fun W (h : StAt W w.heap.size sV) => VApply w.heap.size sV (cRs (mm : Int)) W h (hG.gv.ready (by decide) (by decide) (cRs_in (by omega)))
  have KA2 := Lib.hid fun W (h : StAt W w.heap.size sR) => VApply w.heap.size sR (cRs (nn : Int)) W h (hG.gr.ready (by decide) (by decide) (cRs_in (by omega)))
  rw [e1] at KM
  rw [e2] at KR
  rw [e3] at KA2
  have HG := Lib.hid hG
  have p1 := bdS; have p2 := bdMk (nn : Int); have p3 := bdRs; have p4 := bdPl_run
  have HK := Lib.hid hK; have HM := Lib.hid hM
  have nn2 := nn1.2; have mm2 := mm1.2
  have NN := Lib.hid nn1; have MM := Lib.hid mm1
  have hdv : ((mm : Int) + 7) / 8 = (M : Int) := by unfold countF at hM; exact hM
  clear e1 e2 e3 hG ha hb hK hM nn1 mm1
  go_enter Try.func5, Try.ntmps5
  go_wp2_with fail
  refine KN.out.mono ?_
  rintro e w1 ⟨rfl, hs1, hb1⟩
  rw [← s3_zero] at hs1
  have Hsw1 := Lib.hid hs1; have Hbw1 := Lib.hid hb1
  clear hs1 hb1
  go_wp2
  go_loopw [6] (fun iv wr => ∃ j : Nat, j ≤ 3 ∧ iv = .int .i64 (j : Int) ∧ StAt wr w.heap.size (s3 j) ∧ Below w.heap.size w wr) (fun iv _ => 3 - (intOf iv).toNat)
  case atStart => exact ⟨0, by omega, rfl, Hsw1.out, Hbw1.out⟩
  case round =>
    obtain ⟨w2, rfl⟩ : ∃ w2, w2 = wr := ⟨_, rfl⟩
    obtain ⟨j, hj3, rfl, hs2, hb2⟩ := hrel
    have Hsw2 := Lib.hid hs2; have Hbw2 := Lib.hid hb2
    clear hs2 hb2
    by_cases hj : j < 3
    · have j0 : (0 : Int) ≤ (j : Int) := by omega
      have j1 : (j : Int) < 3 := by omega
      have KA := Lib.hid (KS.out j hj w2 Hsw2.out)
      go_wp2_with fail
      refine KA.out.mono ?_
      rintro e w3 ⟨rfl, hs3, ht3⟩
      have Hsw3 := Lib.hid hs3; have Hbw3 := Lib.hid (Hbw2.out.trans (ht3.below (fun k e => by omega) Hbw2.out.size))
      clear hs3 ht3
      go_wp2
      go_roundw
      case rel => exact ⟨j + 1, by omega, by go_num, Hsw3.out, Hbw3.out⟩
      case measure => simp [intOf]; omega
    · obtain rfl : j = 3 := by omega
      have j1 : ¬ ((3 : Nat) : Int) < 3 := by omega
      have KA := Lib.hid (KM.out w2 Hsw2.out)
      go_wp2_with fail
      refine KA.out.mono ?_
      rintro e w4 ⟨rfl, hst, ht⟩
      have Hsw4 := Lib.hid hst; have Htw4 := Lib.hid ht; have Hbw4 := Lib.hid (Hbw2.out.trans (ht.below (fun k e => by omega) Hbw2.out.size))
      clear hst ht KA
      simp only
      have HlA := Lib.hid (show (idsK (sV.vs 7).ks).length = K by rw [HG.out.iv, numsF_length])
      have HlB := Lib.hid (show (idsK (sR.vs 7).ks).length = M by rw [HG.out.ir, List.length_append, List.length_take, numsF_length, numsF_length]; omega)
      have HlC := Lib.hid (show (idsK (sA.vs 7).ks).length = K by rw [HG.out.ia, List.length_append, List.length_take, List.length_append, List.length_take, numsF_length, numsF_length, numsF_length]; omega)
      have KVA := Lib.hid (show Calls Try.prog 10 #[.pointer (some ⟨w.heap.size, 0, none⟩), .int .i64 7] w4 (VolumeRet 7 (sV.vs 7) w4) from VVolume_yes w.heap.size sV 7 w4 Hsw4.out (HG.out.gv.d.fit (by decide)) HG.out.v.vol)
      go_wp2_with fail
      refine KVA.out.mono ?_
      rintro e vA ⟨⟨AA, nA, cA⟩, rfl, hoA, hbA⟩
      simp only at hoA ⊢
      have hnA : K = nA := by have h1 := hoA.1; rw [numsV_length, HlA.out] at h1; omega
      subst hnA
      obtain ⟨zA, hzA⟩ : ∃ z, vA.alloc (.cells #[.int .i64 0, .int .i64 0, .int .i64 0, .int .i64 0, .int .i64 0, .int .i64 0, .int .i64 0, .slice none 0 0] 32) = z := ⟨_, rfl⟩
      have hbzA : Below vA.heap.size vA zA := by rw [← hzA]; exact below_box _ _
      have hrzA : zA.heap[vA.heap.size]? = some (.cells #[.int .i64 0, .int .i64 0, .int .i64 0, .int .i64 0, .int .i64 0, .int .i64 0, .int .i64 0, .slice none 0 0] 32 (0, 0)) := by rw [← hzA]; exact heap_alloc_new _ _
      obtain ⟨w5, hstA, hrA, htA⟩ := stVo_run hrzA rfl (7 : Int) (sV.vs 7).bl (sV.vs 7).p.re (sV.vs 7).p.we (sV.vs 7).p.li (sV.vs 7).p.bu (sV.vs 7).ver ⟨AA, K, cA⟩
      simp only at hstA hrA
      have hbvA : Below vA.heap.size vA w5 := hbzA.trans (htA.below (fun k e => by omega) hbzA.size)
      have hbwA : Below w4.heap.size w4 w5 := hbA.trans (hbvA.mono hbA.size)
      have Hbw5 := Lib.hid (Hbw4.out.trans (hbwA.mono Hbw4.out.size)); have Hsw5 := Lib.hid (Hsw4.out.below hbwA)
      have HwA := Lib.hid hbwA; have HrA := Lib.hid hrA; have HoA := Lib.hid (own_baseM (own_belowM hoA hbvA) (show w.heap.size + 1 ≤ w4.heap.size from Hsw4.out.lt))
      have HgtA := Lib.hid (show w.heap.size < vA.heap.size from Nat.lt_of_lt_of_le Hsw4.out.lt hbA.size)
      clear hoA hbA hbzA hrzA hrA htA hbvA hbwA
      obtain ⟨k1, r1, r1', hk1, hk1', hid1⟩ := HG.out.fst
      obtain ⟨j1', hf1⟩ := HG.out.v.first hk1 hid1
      obtain ⟨j2', hf2⟩ := HG.out.r.first hk1' hid1
      have KKa := Lib.hid (by have := VChunk w.heap.size sV 1 w5 Hsw5.out (HG.out.gv.d.fit (by decide)) HG.out.gv.d.ord; rw [hf1] at this; exact this : Calls Try.prog 16 #[.pointer (some ⟨w.heap.size, 0, none⟩), .int .i64 1] w5 (fun e w' => ∃ r : Ck, r.dat = k1 ∧ e = .returned (.tuple #[ckA r, .bool true]) ∧ CkOwn w' w5.heap.size r ∧ Below w5.heap.size w5 w'))
      have KKall := Lib.hid (fun W (h : StAt W w.heap.size sR) => (by have := VChunk w.heap.size sR 1 W h (HG.out.gr.d.fit (by decide)) HG.out.gr.d.ord; rw [hf2] at this; exact this : Calls Try.prog 16 #[.pointer (some ⟨w.heap.size, 0, none⟩), .int .i64 1] W (fun e w' => ∃ r : Ck, r.dat = k1 ∧ e = .returned (.tuple #[ckA r, .bool true]) ∧ CkOwn w' W.heap.size r ∧ Below W.heap.size W w')))
      clear hk1 hk1' hid1 hf1 hf2
      go_wp2_with fail
      refine KKa.out.mono ?_
      rintro e va ⟨⟨rida, rvoa, repa, ⟨mAa, mna, mca⟩, ⟨jAa, jna, jca⟩, rmsa, rjsa⟩, hdata, rfl, hcka, hba⟩
      unfold ckA
      simp only
      obtain ⟨za, hza⟩ : ∃ z, va.alloc (.cells #[.int .i64 0, .int .i64 0, .int .i64 0, .slice none 0 0, .slice none 0 0] 48) = z := ⟨_, rfl⟩
      have hbza : Below va.heap.size va za := by rw [← hza]; exact below_box _ _
      have hrza : za.heap[va.heap.size]? = some (.cells #[.int .i64 0, .int .i64 0, .int .i64 0, .slice none 0 0, .slice none 0 0] 48 (0, 0)) := by rw [← hza]; exact heap_alloc_new _ _
      obtain ⟨w6, hsta, hra, hta⟩ := stCk_run hrza rfl ⟨rida, rvoa, repa, ⟨mAa, mna, mca⟩, ⟨jAa, jna, jca⟩, rmsa, rjsa⟩
      simp only at hsta hra
      have hbva : Below va.heap.size va w6 := hbza.trans (hta.below (fun k e => by omega) hbza.size)
      have hbwa : Below w5.heap.size w5 w6 := hba.trans (hbva.mono hba.size)
      have Hbw6 := Lib.hid (Hbw5.out.trans (hbwa.mono Hbw5.out.size)); have Hsw6 := Lib.hid (Hsw5.out.below hbwa)
      have Hwa := Lib.hid hbwa; have Hra := Lib.hid hra
      have Hma := Lib.hid (own_baseM (own_belowM hcka.m hbva) (show w.heap.size + 1 ≤ w5.heap.size from Hsw5.out.lt)); have Hja := Lib.hid (own_baseM (own_belowM hcka.j hbva) (show w.heap.size + 1 ≤ w5.heap.size from Hsw5.out.lt))
      have Hgta := Lib.hid (show w.heap.size < va.heap.size from Nat.lt_of_lt_of_le Hsw5.out.lt hba.size); have Hdata := Lib.hid hdata
      clear hcka hba hbza hrza hra hta hbva hbwa hdata
      have KA := Lib.hid (KR.out w6 Hsw6.out)
      go_wp2_with fail
      refine KA.out.mono ?_
      rintro e w7 ⟨rfl, hst, ht⟩
      have Hsw7 := Lib.hid hst; have Htw7 := Lib.hid ht; have Hbw7 := Lib.hid (Hbw6.out.trans (ht.below (fun k e => by omega) Hbw6.out.size))
      clear hst ht KA
      simp only
      have KVB := Lib.hid (show Calls Try.prog 10 #[.pointer (some ⟨w.heap.size, 0, none⟩), .int .i64 7] w7 (VolumeRet 7 (sR.vs 7) w7) from VVolume_yes w.heap.size sR 7 w7 Hsw7.out (HG.out.gr.d.fit (by decide)) HG.out.r.vol)
      have HrA7 := Lib.hid (Htw7.out.heap (row_below HrA.out Hwa.out) (fun e => by have := HgtA.out; omega)); have HoA7 := Lib.hid (own_app (own_belowM HoA.out Hwa.out) Htw7.out (Nat.le_refl _))
      have Hra7 := Lib.hid (Htw7.out.heap Hra.out (fun e => by have := Hgta.out; omega)); have Hma7 := Lib.hid (own_app Hma.out Htw7.out (Nat.le_refl _)); have Hja7 := Lib.hid (own_app Hja.out Htw7.out (Nat.le_refl _))
      go_wp2_with fail
      refine KVB.out.mono ?_
      rintro e vB ⟨⟨AB, nB, cB⟩, rfl, hoB, hbB⟩
      simp only at hoB ⊢
      have hnB : M = nB := by have h1 := hoB.1; rw [numsV_length, HlB.out] at h1; omega
      subst hnB
      obtain ⟨zB, hzB⟩ : ∃ z, vB.alloc (.cells #[.int .i64 0, .int .i64 0, .int .i64 0, .int .i64 0, .int .i64 0, .int .i64 0, .int .i64 0, .slice none 0 0] 32) = z := ⟨_, rfl⟩
      have hbzB : Below vB.heap.size vB zB := by rw [← hzB]; exact below_box _ _
      have hrzB : zB.heap[vB.heap.size]? = some (.cells #[.int .i64 0, .int .i64 0, .int .i64 0, .int .i64 0, .int .i64 0, .int .i64 0, .int .i64 0, .slice none 0 0] 32 (0, 0)) := by rw [← hzB]; exact heap_alloc_new _ _
      obtain ⟨w8, hstB, hrB, htB⟩ := stVo_run hrzB rfl (7 : Int) (sR.vs 7).bl (sR.vs 7).p.re (sR.vs 7).p.we (sR.vs 7).p.li (sR.vs 7).p.bu (sR.vs 7).ver ⟨AB, M, cB⟩
      simp only at hstB hrB
      have hbvB : Below vB.heap.size vB w8 := hbzB.trans (htB.below (fun k e => by omega) hbzB.size)
      have hbwB : Below w7.heap.size w7 w8 := hbB.trans (hbvB.mono hbB.size)
      have Hbw8 := Lib.hid (Hbw7.out.trans (hbwB.mono Hbw7.out.size)); have Hsw8 := Lib.hid (Hsw7.out.below hbwB)
      have HwB := Lib.hid hbwB; have HrB := Lib.hid hrB; have HoB := Lib.hid (own_baseM (own_belowM hoB hbvB) (show w.heap.size + 1 ≤ w7.heap.size from Hsw7.out.lt))
      have HgtB := Lib.hid (show w.heap.size < vB.heap.size from Nat.lt_of_lt_of_le Hsw7.out.lt hbB.size)
      clear hoB hbB hbzB hrzB hrB htB hbvB hbwB
      have hA8 : w8.cell? ⟨vA.heap.size, 7, none⟩ = some (.slice AA K cA) := row_cell (row_below HrA7.out HwB.out) 7
      have hB8 : w8.cell? ⟨vB.heap.size, 7, none⟩ = some (.slice AB M cB) := row_cell HrB.out 7
      obtain ⟨kk, hkk⟩ : ∃ kk, min K M = kk := ⟨_, rfl⟩
      have hmin : min (K : Int) (M : Int) = (kk : Int) := by omega
      have hmin2 : min (M : Int) (K : Int) = (kk : Int) := by omega
      have KKb := Lib.hid (KKall.out w8 Hsw8.out)
      go_upto_region 18 with fail
      clear hA8 hB8
      go_wp2_with fail
      refine KKb.out.mono ?_
      rintro e vb ⟨⟨ridb, rvob, repb, ⟨mAb, mnb, mcb⟩, ⟨jAb, jnb, jcb⟩, rmsb, rjsb⟩, hdatb, rfl, hckb, hbb⟩
      unfold ckA
      simp only
      obtain ⟨zb, hzb⟩ : ∃ z, vb.alloc (.cells #[.int .i64 0, .int .i64 0, .int .i64 0, .slice none 0 0, .slice none 0 0] 48) = z := ⟨_, rfl⟩
      have hbzb : Below vb.heap.size vb zb := by rw [← hzb]; exact below_box _ _
      have hrzb : zb.heap[vb.heap.size]? = some (.cells #[.int .i64 0, .int .i64 0, .int .i64 0, .slice none 0 0, .slice none 0 0] 48 (0, 0)) := by rw [← hzb]; exact heap_alloc_new _ _
      obtain ⟨wX, hstb, hrb, htb⟩ := stCk_run hrzb rfl ⟨ridb, rvob, repb, ⟨mAb, mnb, mcb⟩, ⟨jAb, jnb, jcb⟩, rmsb, rjsb⟩
      simp only at hstb hrb
      have hbvb : Below vb.heap.size vb wX := hbzb.trans (htb.below (fun k e => by omega) hbzb.size)
      have hbwb : Below w8.heap.size w8 wX := hbb.trans (hbvb.mono hbb.size)
      have HbX := Lib.hid (Hbw8.out.trans (hbwb.mono Hbw8.out.size)); have HsX := Lib.hid (Hsw8.out.below hbwb)
      have Hwb := Lib.hid hbwb; have Hrb := Lib.hid hrb
      have Hmb := Lib.hid (own_baseM (own_belowM hckb.m hbvb) (show w.heap.size + 1 ≤ w8.heap.size from Hsw8.out.lt)); have Hjb := Lib.hid (own_baseM (own_belowM hckb.j hbvb) (show w.heap.size + 1 ≤ w8.heap.size from Hsw8.out.lt))
      have Hgtb := Lib.hid (show w.heap.size < vb.heap.size from Nat.lt_of_lt_of_le Hsw8.out.lt hbb.size); have Hdatb := Lib.hid hdatb
      clear hckb hbb hbzb hrzb hrb htb hbvb hbwb hdatb
      have hdd := Hdata.out.trans Hdatb.out.symm
      unfold Ck.dat at hdd
      simp only [Chk.mk.injEq] at hdd
      obtain ⟨d1, d2, d3, d4, d5⟩ := hdd
      subst d1; subst d2; subst d3; subst d4; subst d5
      have h8X := Hwb.out
      have h7X := HwB.out.trans (Hwb.out.mono HwB.out.size)
      have rAX := row_below HrA7.out h7X
      have rBX := row_below HrB.out h8X
      have raX := row_below Hra7.out h7X
      have Hc := Lib.hid (fun V (hv : Below wX.heap.size wX V) => (⟨row_cell (row_below rAX hv) 7, row_cell (row_below rBX hv) 7, ldCk_run (CkAt.of_row (k := ⟨rida, rvoa, repa, ⟨mAa, mna, mca⟩, ⟨jAa, jna, jca⟩, rmsa, rjsa⟩) (row_below raX hv)), ldCk_run (CkAt.of_row (k := ⟨rida, rvoa, repa, ⟨mAb, mnb, mcb⟩, ⟨jAb, jnb, jcb⟩, rmsa, rjsa⟩) (row_below Hrb.out hv))⟩ :
        V.cell? ⟨vA.heap.size, 7, none⟩ = some (.slice AA K cA) ∧ V.cell? ⟨vB.heap.size, 7, none⟩ = some (.slice AB M cB) ∧
        (ldCk (.pointer (some ⟨va.heap.size, 0, none⟩))).run Try.prog V = .ok (.agg #[.int .i64 rida, .int .i64 rvoa, .int .i64 repa, .slice mAa mna mca, .slice jAa jna jca]) V ∧
        (ldCk (.pointer (some ⟨vb.heap.size, 0, none⟩))).run Try.prog V = .ok (.agg #[.int .i64 rida, .int .i64 rvoa, .int .i64 repa, .slice mAb mnb mcb, .slice jAb jnb jcb]) V))
      have hoAX := own_belowM HoA7.out h7X
      have hoBX := own_belowM HoB.out h8X
      have hmaX := own_belowM Hma7.out h7X
      have hjaX := own_belowM Hja7.out h7X
      obtain ⟨q1, q2⟩ := own_capL hoAX
      obtain ⟨q3, q4⟩ := own_capL hoBX
      have q5 : (kk : Int) ≤ (cA : Int) := by omega
      have q6 : (kk : Int) ≤ (cB : Int) := by omega
      have q7 : (0 : Int) ≤ (kk : Int) := by omega
      unfold maxLen at q2 q4
      have KI := Lib.hid (fun W (hv : Below wX.heap.size wX W) => (by
        have h := SameInts_any AA AB kk kk cA cB ((idsK (sV.vs 7).ks).take kk) ((idsK (sR.vs 7).ks).take kk) W (by rw [List.length_take, HlA.out]; omega) (by rw [List.length_take, HlB.out]; omega) (by have := ((own_seenM hoAX).below hv).take kk; rwa [show (numsV (idsK (sV.vs 7).ks)).take kk = numsV ((idsK (sV.vs 7).ks).take kk) from by simp [numsV, List.map_take]] at this) (by have := ((own_seenM hoBX).below hv).take kk; rwa [show (numsV (idsK (sR.vs 7).ks)).take kk = numsV ((idsK (sR.vs 7).ks).take kk) from by simp [numsV, List.map_take]] at this) (by unfold maxLen; omega)
        rw [decide_eq_true (by
          rw [HG.out.iv, HG.out.ir, List.take_append_of_le_length (by rw [List.length_take, numsF_length]; omega), List.take_take]
          congr 1
          omega)] at h
        exact h : Calls Try.prog 21 #[.slice AA kk cA, .slice AB kk cB] W fun e w' => e = .returned (.bool true) ∧ Below W.heap.size W w'))
      have lma : rmsa.length = mna := by have := hmaX.1; rw [numsV_length] at this; omega
      have lja : rjsa.length = jna := by have := hjaX.1; rw [numsV_length] at this; omega
      have lmb : rmsa.length = mnb := by have := Hmb.out.1; rw [numsV_length] at this; simpa using this
      have ljb : rjsa.length = jnb := by have := Hjb.out.1; rw [numsV_length] at this; simpa using this
      have KC := Lib.hid (fun W (hv : Below wX.heap.size wX W) => VSameChunk rida rvoa repa ⟨mAa, mna, mca⟩ ⟨mAb, mnb, mcb⟩ ⟨jAa, jna, jca⟩ ⟨jAb, jnb, jcb⟩ rmsa rjsa W lma lmb (Nat.le_trans (own_capL hmaX).1 (own_capL hmaX).2) ((own_seenM hmaX).below hv) ((own_seenM Hmb.out).below hv) lja ljb (Nat.le_trans (own_capL hjaX).1 (own_capL hjaX).2) ((own_seenM hjaX).below hv) ((own_seenM Hjb.out).below hv))
      have KL := Lib.hid (fun W (hv : Below wX.heap.size wX W) => VChunks w.heap.size sR W (HsX.out.below hv) (HG.out.gr.d.fit (by decide)))
      have HLn := Lib.hid (show (numsV (sortI (idsK (allKs sR 64)))).length = M by
        rw [numsV_length, HG.out.r.count]
        have := HlB.out
        simpa [idsK] using this)
      have HrAX := Lib.hid rAX; have HoAX := Lib.hid hoAX
      have q8 : (0 : Int) ≤ (mm : Int) := by omega
      have x7 : IntKind.i64.wrap ((mm : Int) + 7) = (mm : Int) + 7 := IntWalk.i64_in _ ⟨by omega, by omega⟩
      have x8 : ((mm : Int) + 7).tdiv 8 = (M : Int) := by rw [Int.tdiv_eq_ediv_of_nonneg (by omega)]; exact hdv
      have x9 : IntKind.i64.wrap (M : Int) = (M : Int) := IntWalk.i64_in _ ⟨by omega, by omega⟩
      clear h8X h7X rAX rBX raX hoAX hoBX hmaX hjaX lma lja lmb ljb
      go_upto_region 19 with fail
      refine wp_region_held_drew (S := fun V => Below wX.heap.size wX V) (by kernel_rfl) ?_ (fun hHeld => ?_)
      · exact (Below.refl _ _).drew
      refine wpAnyH_take (i := 0) (v := ?v1) rfl (by kernel_rfl) (by kernel_rfl) (by kernel_rfl) (fun _ _ _ h => h) (Or.inl ⟨by rfl, ?hy1⟩) (by assumption) ?rest1
      case hy1 => (intro w' hS; obtain ⟨t1, t2, t3, t4⟩ := Hc.out w' hS; (try simp only [List.getElem_toArray, List.getElem_cons_succ, List.getElem_cons_zero]); go_simp; try with_reducible rfl)
      try simp only [Act.put, List.setIfInBounds_toArray, List.set_cons_zero, List.set_cons_succ, List.getElem_toArray, List.getElem_cons_succ, List.getElem_cons_zero]
      refine wpAnyH_take (i := 1) (v := ?v2) rfl (by kernel_rfl) (by kernel_rfl) (by kernel_rfl) (fun _ _ _ h => h) (Or.inl ⟨by rfl, ?hy2⟩) (by assumption) ?rest2
      case hy2 => (intro w' hS; obtain ⟨t1, t2, t3, t4⟩ := Hc.out w' hS; (try simp only [List.getElem_toArray, List.getElem_cons_succ, List.getElem_cons_zero]); go_simp; try with_reducible rfl)
      try simp only [Act.put, List.setIfInBounds_toArray, List.set_cons_zero, List.set_cons_succ, List.getElem_toArray, List.getElem_cons_succ, List.getElem_cons_zero]
      refine wpAnyH_take (i := 2) (v := ?v3) rfl (by kernel_rfl) (by kernel_rfl) (by kernel_rfl) (fun _ _ _ h => h) (Or.inl ⟨by rfl, ?hy3⟩) (by assumption) ?rest3
      case hy3 => (intro w' hS; obtain ⟨t1, t2, t3, t4⟩ := Hc.out w' hS; (try simp only [List.getElem_toArray, List.getElem_cons_succ, List.getElem_cons_zero]); go_simp; try with_reducible rfl)
      try simp only [Act.put, List.setIfInBounds_toArray, List.set_cons_zero, List.set_cons_succ, List.getElem_toArray, List.getElem_cons_succ, List.getElem_cons_zero]
      refine wpAnyH_take (i := 3) (v := ?v4) rfl (by kernel_rfl) (by kernel_rfl) (by kernel_rfl) (fun _ _ _ h => h) (Or.inl ⟨by rfl, ?hy4⟩) (by assumption) ?rest4
      case hy4 => (intro w' hS; obtain ⟨t1, t2, t3, t4⟩ := Hc.out w' hS; (try simp only [List.getElem_toArray, List.getElem_cons_succ, List.getElem_cons_zero]); go_simp; try with_reducible rfl)
      try simp only [Act.put, List.setIfInBounds_toArray, List.set_cons_zero, List.set_cons_succ, List.getElem_toArray, List.getElem_cons_succ, List.getElem_cons_zero]
      refine wpAnyH_take (i := 4) (v := ?v5) rfl (by kernel_rfl) (by kernel_rfl) (by kernel_rfl) (fun _ _ _ h => h) (Or.inl ⟨by rfl, ?hy5⟩) (by assumption) ?rest5
      case hy5 => (intro w' hS; obtain ⟨t1, t2, t3, t4⟩ := Hc.out w' hS; (try simp only [List.getElem_toArray, List.getElem_cons_succ, List.getElem_cons_zero]); go_simp; try with_reducible rfl)
      try simp only [Act.put, List.setIfInBounds_toArray, List.set_cons_zero, List.set_cons_succ, List.getElem_toArray, List.getElem_cons_succ, List.getElem_cons_zero]
      refine wpAnyH_take (i := 5) (v := ?v6) rfl (by kernel_rfl) (by kernel_rfl) (by kernel_rfl) (fun _ _ _ h => h) (Or.inl ⟨by rfl, ?hy6⟩) (by assumption) ?rest6
      case hy6 => (intro w' hS; obtain ⟨t1, t2, t3, t4⟩ := Hc.out w' hS; (try simp only [List.getElem_toArray, List.getElem_cons_succ, List.getElem_cons_zero]); go_simp; try with_reducible rfl)
      try simp only [Act.put, List.setIfInBounds_toArray, List.set_cons_zero, List.set_cons_succ, List.getElem_toArray, List.getElem_cons_succ, List.getElem_cons_zero]
      refine wpAnyH_take (i := 6) (v := ?v7) rfl (by kernel_rfl) (by kernel_rfl) (by kernel_rfl) (fun _ _ _ h => h) (Or.inl ⟨by rfl, ?hy7⟩) (by assumption) ?rest7
      case hy7 => (intro w' hS; obtain ⟨t1, t2, t3, t4⟩ := Hc.out w' hS; (try simp only [List.getElem_toArray, List.getElem_cons_succ, List.getElem_cons_zero]); go_simp; try with_reducible rfl)
      try simp only [Act.put, List.setIfInBounds_toArray, List.set_cons_zero, List.set_cons_succ, List.getElem_toArray, List.getElem_cons_succ, List.getElem_cons_zero]
      refine wpAnyH_take (i := 7) (v := ?v8) rfl (by kernel_rfl) (by kernel_rfl) (by kernel_rfl) (fun _ _ _ h => h) (Or.inl ⟨by rfl, ?hy8⟩) (by assumption) ?rest8
      case hy8 => (intro w' hS; obtain ⟨t1, t2, t3, t4⟩ := Hc.out w' hS; (try simp only [List.getElem_toArray, List.getElem_cons_succ, List.getElem_cons_zero]); go_simp; try with_reducible rfl)
      try simp only [Act.put, List.setIfInBounds_toArray, List.set_cons_zero, List.set_cons_succ, List.getElem_toArray, List.getElem_cons_succ, List.getElem_cons_zero]
      refine wpAnyH_take (i := 8) (v := ?v9) rfl (by kernel_rfl) (by kernel_rfl) (by kernel_rfl) (fun _ _ _ h => h) (Or.inl ⟨by rfl, ?hy9⟩) (by assumption) ?rest9
      case hy9 => (intro w' hS; obtain ⟨t1, t2, t3, t4⟩ := Hc.out w' hS; (try simp only [List.getElem_toArray, List.getElem_cons_succ, List.getElem_cons_zero]); go_simp; try with_reducible rfl)
      try simp only [Act.put, List.setIfInBounds_toArray, List.set_cons_zero, List.set_cons_succ, List.getElem_toArray, List.getElem_cons_succ, List.getElem_cons_zero]
      refine wpAnyH_take (i := 9) (v := ?v10) rfl (by kernel_rfl) (by kernel_rfl) (by kernel_rfl) (fun _ _ _ h => h) (Or.inl ⟨by rfl, ?hy10⟩) (by assumption) ?rest10
      case hy10 => (intro w' hS; obtain ⟨t1, t2, t3, t4⟩ := Hc.out w' hS; (try simp only [List.getElem_toArray, List.getElem_cons_succ, List.getElem_cons_zero]); go_simp; try with_reducible rfl)
      try simp only [Act.put, List.setIfInBounds_toArray, List.set_cons_zero, List.set_cons_succ, List.getElem_toArray, List.getElem_cons_succ, List.getElem_cons_zero]
      refine wpAnyH_take (i := 10) (v := ?v11) rfl (by kernel_rfl) (by kernel_rfl) (by kernel_rfl) (fun _ _ _ h => h) (Or.inl ⟨by rfl, ?hy11⟩) (by assumption) ?rest11
      case hy11 => (intro w' hS; obtain ⟨t1, t2, t3, t4⟩ := Hc.out w' hS; (try simp only [List.getElem_toArray, List.getElem_cons_succ, List.getElem_cons_zero]); go_simp; try with_reducible rfl)
      try simp only [Act.put, List.setIfInBounds_toArray, List.set_cons_zero, List.set_cons_succ, List.getElem_toArray, List.getElem_cons_succ, List.getElem_cons_zero]
      refine wpAnyH_take (i := 11) (v := ?v12) rfl (by kernel_rfl) (by kernel_rfl) (by kernel_rfl) (fun _ _ _ h => h) (Or.inl ⟨by rfl, ?hy12⟩) (by assumption) ?rest12
      case hy12 => (intro w' hS; obtain ⟨t1, t2, t3, t4⟩ := Hc.out w' hS; (try simp only [List.getElem_toArray, List.getElem_cons_succ, List.getElem_cons_zero]); go_simp; try with_reducible rfl)
      try simp only [Act.put, List.setIfInBounds_toArray, List.set_cons_zero, List.set_cons_succ, List.getElem_toArray, List.getElem_cons_succ, List.getElem_cons_zero]
      refine wpAnyH_take (i := 12) (v := ?v13) rfl (by kernel_rfl) (by kernel_rfl) (by kernel_rfl) (fun _ _ _ h => h) (Or.inl ⟨by rfl, ?hy13⟩) (by assumption) ?rest13
      case hy13 => (intro w' hS; obtain ⟨t1, t2, t3, t4⟩ := Hc.out w' hS; (try simp only [List.getElem_toArray, List.getElem_cons_succ, List.getElem_cons_zero]); go_simp; try with_reducible rfl)
      try simp only [Act.put, List.setIfInBounds_toArray, List.set_cons_zero, List.set_cons_succ, List.getElem_toArray, List.getElem_cons_succ, List.getElem_cons_zero]
      refine wpAnyH_take (i := 13) (v := ?v14) rfl (by kernel_rfl) (by kernel_rfl) (by kernel_rfl) (fun _ _ _ h => h) (Or.inl ⟨by rfl, ?hy14⟩) (by assumption) ?rest14
      case hy14 => (intro w' hS; obtain ⟨t1, t2, t3, t4⟩ := Hc.out w' hS; (try simp only [List.getElem_toArray, List.getElem_cons_succ, List.getElem_cons_zero]); go_simp; try with_reducible rfl)
      try simp only [Act.put, List.setIfInBounds_toArray, List.set_cons_zero, List.set_cons_succ, List.getElem_toArray, List.getElem_cons_succ, List.getElem_cons_zero]
      refine wpAnyH_take (i := 14) (v := ?v15) rfl (by kernel_rfl) (by kernel_rfl) (by kernel_rfl) (fun _ _ _ h => h) (Or.inl ⟨by rfl, ?hy15⟩) (by assumption) ?rest15
      case hy15 => (intro w' hS; obtain ⟨t1, t2, t3, t4⟩ := Hc.out w' hS; (try simp only [List.getElem_toArray, List.getElem_cons_succ, List.getElem_cons_zero]); go_simp; try with_reducible rfl)
      try simp only [Act.put, List.setIfInBounds_toArray, List.set_cons_zero, List.set_cons_succ, List.getElem_toArray, List.getElem_cons_succ, List.getElem_cons_zero]
      refine wpAnyH_take (i := 15) (v := ?v16) rfl (by kernel_rfl) (by kernel_rfl) (by kernel_rfl) (fun _ _ _ h => h) (Or.inl ⟨by rfl, ?hy16⟩) (by assumption) ?rest16
      case hy16 => (intro w' hS; obtain ⟨t1, t2, t3, t4⟩ := Hc.out w' hS; (try simp only [List.getElem_toArray, List.getElem_cons_succ, List.getElem_cons_zero]); go_simp; try with_reducible rfl)
      try simp only [Act.put, List.setIfInBounds_toArray, List.set_cons_zero, List.set_cons_succ, List.getElem_toArray, List.getElem_cons_succ, List.getElem_cons_zero]
      refine wpAnyH_ready (rs := [16]) (by kernel_rfl) (by simp) ?_
      refine AllReadyH.cons rfl (fun K hK => ?_) AllReadyH.nil
      (try simp only [List.getElem_toArray, List.getElem_cons_succ, List.getElem_cons_zero])
      go_simp
      refine (KI.out wX.drew (Below.refl _ _).drew).mono ?_
      rintro e y1 ⟨rfl, hy1⟩
      have Hy1 := Lib.hid ((Below.refl wX.heap.size wX).drew.trans hy1)
      clear hy1
      refine hK.out _ _ ?_ (fun hHeld => ?_)
      · exact Hy1.out
      clear hK K
      try simp only [Act.put, List.setIfInBounds_toArray, List.set_cons_zero, List.set_cons_succ, List.getElem_toArray, List.getElem_cons_succ, List.getElem_cons_zero]
      refine wpAnyH_take (i := 17) (v := ?v17) rfl (by kernel_rfl) (by kernel_rfl) (by kernel_rfl) (fun _ _ _ h => h) (Or.inl ⟨by rfl, ?hy17⟩) (by assumption) ?rest17
      case hy17 => (intro w' hS; obtain ⟨t1, t2, t3, t4⟩ := Hc.out w' hS; (try simp only [List.getElem_toArray, List.getElem_cons_succ, List.getElem_cons_zero]); go_simp; try with_reducible rfl)
      try simp only [Act.put, List.setIfInBounds_toArray, List.set_cons_zero, List.set_cons_succ, List.getElem_toArray, List.getElem_cons_succ, List.getElem_cons_zero]
      refine wpAnyH_take (i := 18) (v := ?v18) rfl (by kernel_rfl) (by kernel_rfl) (by kernel_rfl) (fun _ _ _ h => h) (Or.inl ⟨by rfl, ?hy18⟩) (by assumption) ?rest18
      case hy18 => (intro w' hS; obtain ⟨t1, t2, t3, t4⟩ := Hc.out w' hS; (try simp only [List.getElem_toArray, List.getElem_cons_succ, List.getElem_cons_zero]); go_simp; try with_reducible rfl)
      try simp only [Act.put, List.setIfInBounds_toArray, List.set_cons_zero, List.set_cons_succ, List.getElem_toArray, List.getElem_cons_succ, List.getElem_cons_zero]
      refine wpAnyH_take (i := 19) (v := ?v19) rfl (by kernel_rfl) (by kernel_rfl) (by kernel_rfl) (fun _ _ _ h => h) (Or.inl ⟨by rfl, ?hy19⟩) (by assumption) ?rest19
      case hy19 => (intro w' hS; obtain ⟨t1, t2, t3, t4⟩ := Hc.out w' hS; (try simp only [List.getElem_toArray, List.getElem_cons_succ, List.getElem_cons_zero]); go_simp; try with_reducible rfl)
      try simp only [Act.put, List.setIfInBounds_toArray, List.set_cons_zero, List.set_cons_succ, List.getElem_toArray, List.getElem_cons_succ, List.getElem_cons_zero]
      refine wpAnyH_take (i := 20) (v := ?v20) rfl (by kernel_rfl) (by kernel_rfl) (by kernel_rfl) (fun _ _ _ h => h) (Or.inl ⟨by rfl, ?hy20⟩) (by assumption) ?rest20
      case hy20 => (intro w' hS; obtain ⟨t1, t2, t3, t4⟩ := Hc.out w' hS; (try simp only [List.getElem_toArray, List.getElem_cons_succ, List.getElem_cons_zero]); go_simp; try with_reducible rfl)
      try simp only [Act.put, List.setIfInBounds_toArray, List.set_cons_zero, List.set_cons_succ, List.getElem_toArray, List.getElem_cons_succ, List.getElem_cons_zero]
      refine wpAnyH_take (i := 21) (v := ?v21) rfl (by kernel_rfl) (by kernel_rfl) (by kernel_rfl) (fun _ _ _ h => h) (Or.inl ⟨by rfl, ?hy21⟩) (by assumption) ?rest21
      case hy21 => (intro w' hS; obtain ⟨t1, t2, t3, t4⟩ := Hc.out w' hS; (try simp only [List.getElem_toArray, List.getElem_cons_succ, List.getElem_cons_zero]); go_simp; try with_reducible rfl)
      try simp only [Act.put, List.setIfInBounds_toArray, List.set_cons_zero, List.set_cons_succ, List.getElem_toArray, List.getElem_cons_succ, List.getElem_cons_zero]
      refine wpAnyH_ready (rs := [22]) (by kernel_rfl) (by simp) ?_
      refine AllReadyH.cons rfl (fun K hK => ?_) AllReadyH.nil
      (try simp only [List.getElem_toArray, List.getElem_cons_succ, List.getElem_cons_zero])
      go_simp
      refine (KC.out y1 Hy1.out).mono ?_
      rintro e y2 ⟨rfl, hy2⟩
      have Hy2 := Lib.hid (Hy1.out.trans (hy2.mono Hy1.out.size))
      clear hy2
      refine hK.out _ _ ?_ (fun hHeld => ?_)
      · exact Hy2.out
      clear hK K
      try simp only [Act.put, List.setIfInBounds_toArray, List.set_cons_zero, List.set_cons_succ, List.getElem_toArray, List.getElem_cons_succ, List.getElem_cons_zero]
      refine wpAnyH_take (i := 23) (v := ?v22) rfl (by kernel_rfl) (by kernel_rfl) (by kernel_rfl) (fun _ _ _ h => h) (Or.inl ⟨by rfl, ?hy22⟩) (by assumption) ?rest22
      case hy22 => (intro w' hS; obtain ⟨t1, t2, t3, t4⟩ := Hc.out w' hS; (try simp only [List.getElem_toArray, List.getElem_cons_succ, List.getElem_cons_zero]); go_simp; try with_reducible rfl)
      try simp only [Act.put, List.setIfInBounds_toArray, List.set_cons_zero, List.set_cons_succ, List.getElem_toArray, List.getElem_cons_succ, List.getElem_cons_zero]
      refine wpAnyH_take (i := 24) (v := ?v23) rfl (by kernel_rfl) (by kernel_rfl) (by kernel_rfl) (fun _ _ _ h => h) (Or.inl ⟨by rfl, ?hy23⟩) (by assumption) ?rest23
      case hy23 => (intro w' hS; obtain ⟨t1, t2, t3, t4⟩ := Hc.out w' hS; (try simp only [List.getElem_toArray, List.getElem_cons_succ, List.getElem_cons_zero]); go_simp; try with_reducible rfl)
      try simp only [Act.put, List.setIfInBounds_toArray, List.set_cons_zero, List.set_cons_succ, List.getElem_toArray, List.getElem_cons_succ, List.getElem_cons_zero]
      refine wpAnyH_take (i := 25) (v := ?v24) rfl (by kernel_rfl) (by kernel_rfl) (by kernel_rfl) (fun _ _ _ h => h) (Or.inl ⟨by rfl, ?hy24⟩) (by assumption) ?rest24
      case hy24 => (intro w' hS; obtain ⟨t1, t2, t3, t4⟩ := Hc.out w' hS; (try simp only [List.getElem_toArray, List.getElem_cons_succ, List.getElem_cons_zero]); go_simp; try with_reducible rfl)
      try simp only [Act.put, List.setIfInBounds_toArray, List.set_cons_zero, List.set_cons_succ, List.getElem_toArray, List.getElem_cons_succ, List.getElem_cons_zero]
      refine wpAnyH_take (i := 26) (v := ?v25) rfl (by kernel_rfl) (by kernel_rfl) (by kernel_rfl) (fun _ _ _ h => h) (Or.inl ⟨by rfl, ?hy25⟩) (by assumption) ?rest25
      case hy25 => (intro w' hS; obtain ⟨t1, t2, t3, t4⟩ := Hc.out w' hS; (try simp only [List.getElem_toArray, List.getElem_cons_succ, List.getElem_cons_zero]); go_simp; try with_reducible rfl)
      try simp only [Act.put, List.setIfInBounds_toArray, List.set_cons_zero, List.set_cons_succ, List.getElem_toArray, List.getElem_cons_succ, List.getElem_cons_zero]
      refine wpAnyH_take (i := 29) (v := ?v26) rfl (by kernel_rfl) (by kernel_rfl) (by kernel_rfl) (fun _ _ _ h => h) (Or.inl ⟨by rfl, ?hy26⟩) (by assumption) ?rest26
      case hy26 => (intro w' hS; obtain ⟨t1, t2, t3, t4⟩ := Hc.out w' hS; (try simp only [List.getElem_toArray, List.getElem_cons_succ, List.getElem_cons_zero]); go_simp; try with_reducible rfl)
      try simp only [Act.put, List.setIfInBounds_toArray, List.set_cons_zero, List.set_cons_succ, List.getElem_toArray, List.getElem_cons_succ, List.getElem_cons_zero]
      refine wpAnyH_take (i := 30) (v := ?v27) rfl (by kernel_rfl) (by kernel_rfl) (by kernel_rfl) (fun _ _ _ h => h) (Or.inl ⟨by rfl, ?hy27⟩) (by assumption) ?rest27
      case hy27 => (intro w' hS; obtain ⟨t1, t2, t3, t4⟩ := Hc.out w' hS; (try simp only [List.getElem_toArray, List.getElem_cons_succ, List.getElem_cons_zero]); go_simp; try with_reducible rfl)
      try simp only [Act.put, List.setIfInBounds_toArray, List.set_cons_zero, List.set_cons_succ, List.getElem_toArray, List.getElem_cons_succ, List.getElem_cons_zero]
      refine wpAnyH_take (i := 31) (v := ?v28) rfl (by kernel_rfl) (by kernel_rfl) (by kernel_rfl) (fun _ _ _ h => h) (Or.inl ⟨by rfl, ?hy28⟩) (by assumption) ?rest28
      case hy28 => (intro w' hS; obtain ⟨t1, t2, t3, t4⟩ := Hc.out w' hS; (try simp only [List.getElem_toArray, List.getElem_cons_succ, List.getElem_cons_zero]); go_simp; try with_reducible rfl)
      try simp only [Act.put, List.setIfInBounds_toArray, List.set_cons_zero, List.set_cons_succ, List.getElem_toArray, List.getElem_cons_succ, List.getElem_cons_zero]
      refine wpAnyH_ready (rs := [27]) (by kernel_rfl) (by simp) ?_
      refine AllReadyH.cons rfl (fun K hK => ?_) AllReadyH.nil
      (try simp only [List.getElem_toArray, List.getElem_cons_succ, List.getElem_cons_zero])
      go_simp
      refine (KL.out y2 Hy2.out).mono ?_
      rintro e y3 ⟨Aq, cq, rfl, -, hy3⟩
      rw [HLn.out]
      have Hy3 := Lib.hid (Hy2.out.trans (hy3.mono Hy2.out.size))
      clear hy3
      refine hK.out _ _ ?_ (fun hHeld => ?_)
      · exact Hy3.out
      clear hK K
      try simp only [Act.put, List.setIfInBounds_toArray, List.set_cons_zero, List.set_cons_succ, List.getElem_toArray, List.getElem_cons_succ, List.getElem_cons_zero]
      refine wpAnyH_take (i := 28) (v := ?v29) rfl (by kernel_rfl) (by kernel_rfl) (by kernel_rfl) (fun _ _ _ h => h) (Or.inl ⟨by rfl, ?hy29⟩) (by assumption) ?rest29
      case hy29 => (intro w' hS; obtain ⟨t1, t2, t3, t4⟩ := Hc.out w' hS; (try simp only [List.getElem_toArray, List.getElem_cons_succ, List.getElem_cons_zero]); go_simp; try with_reducible rfl)
      try simp only [Act.put, List.setIfInBounds_toArray, List.set_cons_zero, List.set_cons_succ, List.getElem_toArray, List.getElem_cons_succ, List.getElem_cons_zero]
      refine wpAnyH_take (i := 32) (v := ?v30) rfl (by kernel_rfl) (by kernel_rfl) (by kernel_rfl) (fun _ _ _ h => h) (Or.inl ⟨by rfl, ?hy30⟩) (by assumption) ?rest30
      case hy30 => (intro w' hS; obtain ⟨t1, t2, t3, t4⟩ := Hc.out w' hS; (try simp only [List.getElem_toArray, List.getElem_cons_succ, List.getElem_cons_zero]); go_simp; try with_reducible rfl)
      try simp only [Act.put, List.setIfInBounds_toArray, List.set_cons_zero, List.set_cons_succ, List.getElem_toArray, List.getElem_cons_succ, List.getElem_cons_zero]
      refine wpAnyH_take (i := 33) (v := ?v31) rfl (by kernel_rfl) (by kernel_rfl) (by kernel_rfl) (fun _ _ _ h => h) (Or.inl ⟨by rfl, ?hy31⟩) (by assumption) ?rest31
      case hy31 => (intro w' hS; obtain ⟨t1, t2, t3, t4⟩ := Hc.out w' hS; (try simp only [List.getElem_toArray, List.getElem_cons_succ, List.getElem_cons_zero]); go_simp; try with_reducible rfl)
      try simp only [Act.put, List.setIfInBounds_toArray, List.set_cons_zero, List.set_cons_succ, List.getElem_toArray, List.getElem_cons_succ, List.getElem_cons_zero]
      refine wpAnyH_done (by kernel_rfl) ?_ _
      have hsY := HsX.out.below Hy3.out
      have Hsy3 := Lib.hid hsY; have Hby3 := Lib.hid (HbX.out.trans (Hy3.out.mono HbX.out.size))
      have HrAY := Lib.hid (row_below HrAX.out Hy3.out); have HoAY := Lib.hid (own_belowM HoAX.out Hy3.out)
      clear hsY hHeld x7 x8 x9
      have KA := Lib.hid (KA2.out y3 Hsy3.out)
      go_wp2_with fail
      refine KA.out.mono ?_
      rintro e w9 ⟨rfl, hst, ht⟩
      have Hsw9 := Lib.hid hst; have Htw9 := Lib.hid ht; have Hbw9 := Lib.hid (Hby3.out.trans (ht.below (fun k e => by omega) Hby3.out.size))
      clear hst ht KA
      simp only
      have KVC := Lib.hid (show Calls Try.prog 10 #[.pointer (some ⟨w.heap.size, 0, none⟩), .int .i64 7] w9 (VolumeRet 7 (sA.vs 7) w9) from VVolume_yes w.heap.size sA 7 w9 Hsw9.out (HG.out.ga.d.fit (by decide)) HG.out.a.vol)
      have HrA9 := Lib.hid (Htw9.out.heap HrAY.out (fun e => by have := HgtA.out; omega)); have HoA9 := Lib.hid (own_app HoAY.out Htw9.out (Nat.le_refl _))
      go_wp2_with fail
      refine KVC.out.mono ?_
      rintro e vC ⟨⟨AC, nC, cC⟩, rfl, hoC, hbC⟩
      simp only at hoC ⊢
      have hnC : K = nC := by have h1 := hoC.1; rw [numsV_length, HlC.out] at h1; omega
      subst hnC
      obtain ⟨zC, hzC⟩ : ∃ z, vC.alloc (.cells #[.int .i64 0, .int .i64 0, .int .i64 0, .int .i64 0, .int .i64 0, .int .i64 0, .int .i64 0, .slice none 0 0] 32) = z := ⟨_, rfl⟩
      have hbzC : Below vC.heap.size vC zC := by rw [← hzC]; exact below_box _ _
      have hrzC : zC.heap[vC.heap.size]? = some (.cells #[.int .i64 0, .int .i64 0, .int .i64 0, .int .i64 0, .int .i64 0, .int .i64 0, .int .i64 0, .slice none 0 0] 32 (0, 0)) := by rw [← hzC]; exact heap_alloc_new _ _
      obtain ⟨wZ, hstC, hrC, htC⟩ := stVo_run hrzC rfl (7 : Int) (sA.vs 7).bl (sA.vs 7).p.re (sA.vs 7).p.we (sA.vs 7).p.li (sA.vs 7).p.bu (sA.vs 7).ver ⟨AC, K, cC⟩
      simp only at hstC hrC
      have hbvC : Below vC.heap.size vC wZ := hbzC.trans (htC.below (fun k e => by omega) hbzC.size)
      have hbwC : Below w9.heap.size w9 wZ := hbC.trans (hbvC.mono hbC.size)
      have HbZ := Lib.hid (Hbw9.out.trans (hbwC.mono Hbw9.out.size)); have HsZ := Lib.hid (Hsw9.out.below hbwC)
      have HwC := Lib.hid hbwC; have HrC := Lib.hid hrC; have HoC := Lib.hid (own_baseM (own_belowM hoC hbvC) (show w.heap.size + 1 ≤ w9.heap.size from Hsw9.out.lt))
      have HgtC := Lib.hid (show w.heap.size < vC.heap.size from Nat.lt_of_lt_of_le Hsw9.out.lt hbC.size)
      clear hoC hbC hbzC hrzC hrC htC hbvC hbwC
      have hver := HG.out.a.ver
      have rAZ := row_below HrA9.out HwC.out
      have HrAZ := Lib.hid rAZ; have HoAZ := Lib.hid (own_belowM HoA9.out HwC.out)
      have v6 : wZ.cell? ⟨vC.heap.size, 6, none⟩ = some (.int .i64 1) := by rw [← hver]; exact row_cell HrC.out 6
      have V6 := Lib.hid v6
      clear hver rAZ v6
      go_wp2
      go_loopw [20] (fun iv wr => ∃ i : Nat, kk ≤ i ∧ i ≤ K ∧ iv = .int .i64 (i : Int) ∧ Below wZ.heap.size wZ wr) (fun iv _ => K - (intOf iv).toNat)
      case atStart => exact ⟨kk, Nat.le_refl _, by omega, rfl, Below.refl _ _⟩
      case round =>
        obtain ⟨i, hki, hiK, rfl, hbi⟩ := hrel
        have Hbi := Lib.hid hbi
        have sC : wr.cell? ⟨vC.heap.size, 7, none⟩ = some (.slice AC K cC) := row_cell (row_below HrC.out hbi) 7
        have sA7 : wr.cell? ⟨vA.heap.size, 7, none⟩ = some (.slice AA K cA) := row_cell (row_below HrAZ.out hbi) 7
        clear hbi
        by_cases hi : i < K
        · have i0 : (0 : Int) ≤ (i : Int) := by omega
          have i1 : (i : Int) < (K : Int) := by omega
          by_cases hmn : mm < nn
          · have x1 : (mm : Int) < (nn : Int) := by omega
            have hMK : M ≤ K := by have := HM.out; have := HK.out; unfold countF at *; omega
            obtain ⟨gA, oA, y, hAA, hy, hcy⟩ := (own_seenM (own_belowM HoAZ.out Hbi.out)).num (j := K - 1) (by rw [HlA.out]; omega)
            obtain ⟨gC, oC, z, hAC, hz, hcz⟩ := (own_seenM (own_belowM HoC.out Hbi.out)).num (j := i) (by rw [HlC.out]; exact hi)
            subst hAA; subst hAC
            rw [HG.out.iv, numsF_get (by omega)] at hy
            injection hy with hy
            have hlen1 : (((numsF 0 K).take M ++ numsF (K : Int) (M - K)).take K).length = M := by
              rw [List.length_take, List.length_append, List.length_take, numsF_length, numsF_length]; omega
            rw [HG.out.ia, List.getElem?_append_right (by rw [hlen1]; omega), hlen1, numsF_get (by omega)] at hz
            injection hz with hz
            have x2 : ¬ z ≤ y := by omega
            obtain ⟨K', hK'⟩ : ∃ K', K - 1 = K' := ⟨_, rfl⟩
            rw [hK'] at hcy
            have x3 : (K : Int) - 1 = (K' : Int) := by omega
            have x4 : (0 : Int) ≤ (K' : Int) := by omega
            have x5 : (K' : Int) < (K : Int) := by omega
            clear hy hz hlen1 hK' hMK
            go_wp2
            go_quiet (fail)
            go_wp2
            go_roundw
            case rel => exact ⟨i + 1, by omega, by omega, by go_num, below_drewN Hbi.out _⟩
            case measure => simp [intOf]; omega
          · have x1 : ¬ (mm : Int) < (nn : Int) := by omega
            go_wp2
            go_quiet (fail)
            go_wp2
            go_roundw
            case rel => exact ⟨i + 1, by omega, by omega, by go_num, below_drewN Hbi.out _⟩
            case measure => simp [intOf]; omega
        · obtain rfl : i = K := by omega
          have i1 : ¬ (i : Int) < (i : Int) := by omega
          have v6 := (Hbi.out.cell (block_lt_of_cell V6.out)).trans V6.out
          go_wp2_with (go_at_call 8; refine (VAwake _).mono ?_; rintro e w' ⟨rfl, hb6⟩; have Hbw6 := Lib.hid ((HbZ.out.trans (Hbi.out.mono HbZ.out.size)).trans (hb6.mono (Nat.le_trans HbZ.out.size Hbi.out.size))); clear hb6)
          go_ret
          exact ⟨rfl, Hbw6.out⟩

/-! ### THE ROW -/
theorem own : ownKnob Try.prog.godebug = none := by kernel_rfl

set_option maxRecDepth 100000 in
theorem lifted (os : Os) (started : os.Started) (H : Type) (enc : TypeId × Value → H) :
    ReturnsInHanded {} Try.checked os 5 .any (Rows.volumeGrowsSpec.pre6 enc Try.prog Try.f5 Rows.volumeGrowsRow.domain false) (Rows.volumeGrowsSpec.post enc Try.prog Try.f5 false true false false) := by
  refine returnsInHanded_of_change (C := Try.checked) own started (by kernel_rfl) Try.func5
    (ChangeSpec.witness6 (enc := enc) (C := Try.checked) false ⟨#[], #[.int .u8 0, .int .u8 0], []⟩ 8 (by kernel_rfl) (by kernel_rfl) (by kernel_rfl) (by kernel_rfl)) ?_
  intro W base args ds gs before hval0 hW hcnd _
  have hval : ∀ (j : Nat) t v, Try.f5.params[j]? = some t → args[j]? = some v → Value.okWide Try.prog W .any base t v := hval0
  have hW' := hW
  obtain ⟨p, q, hA0, hV, rfl, hfz, hnd⟩ := hW
  have hA : DataW.TrodAll enc Try.prog W 0 (fun _ => true) true Try.f5.params.toList args.toList ds p := hA0
  rw [Try.params5] at hA hval
  obtain ⟨v0, vs0, d0, ds0, p0, q0, hargs, rfl, rfl, h0, r0⟩ := trodAll_cons hA
  obtain ⟨v1, vs1, d1, ds1, p1, q1, rfl, rfl, rfl, h1, r1⟩ := trodAll_cons r0
  obtain ⟨rfl, rfl, rfl⟩ := trodAll_nil r1
  obtain rfl : args = #[v0, v1] := by cases args; simp_all
  obtain ⟨rfl, rfl⟩ := trodVars_none hV
  obtain ⟨a0, rfl, rfl, rfl, w0⟩ := open_int Try.underlying5 (hval 0 5 v0 rfl rfl) h0
  obtain ⟨a1, rfl, rfl, rfl, w1⟩ := open_int Try.underlying5 (hval 1 5 v1 rfl rfl) h1
  refine (walk a0 a1 W w0 w1).mono fun e W' ⟨he, hg⟩ => ?_
  subst he
  exact ⟨_, rfl, law_post hW' rfl (by kernel_rfl) (by kernel_rfl) (by kernel_rfl) Try.underlying4 rfl rfl rfl hg⟩

theorem over : Rows.volumeGrowsRow.holds Try.pinned (OpenSpec.ofChange Rows.volumeGrowsSpec) :=
  OpenClaim.holds_of_wide 5 Try.f5 rfl rfl rfl rfl rfl rfl rfl ⟨rfl, rfl, rfl, rfl, rfl⟩ rfl rfl rfl rfl rfl (by kernel_rfl) Try.func5 (by kernel_rfl)
    (of_decide_eq_true (by kernel_rfl)) (by unfold Func.isWrapper; first | (rw [if_pos (by decide +kernel)]; kernel_rfl) | (rw [if_neg (by decide +kernel)]; exact ⟨rfl, rfl⟩))
    (fun os started H enc _ => lifted os started H enc)

theorem proved : Rows.VolumeGrowsSaid :=
  over
#print axioms proved

end Go.Proofs.Ytcaaakoahaoooaa.VolumeGrows
