/-
  Joined: VolAwk, VolAw2. Conditions: each theorem's own.
-/
import Derived.Test.YteebkolccbcehaaGreatVolGood

section
set_option linter.all false
namespace Go.Proofs.YteebkolccbcehaaGreat
open Go.ChangeShapes Go.WideShapes Go.ChangeAt Go.RowKit
def bdSt (parts : Array (Nat × Value)) : Sem Value := Instr.build 57 parts
theorem bdSt_eq (parts : Array (Nat × Value)) : Instr.build 57 parts = bdSt parts := rfl
theorem bdSt_run (w : World) : (bdSt #[]).run Tryz.prog w = .ok (.agg zStL.toArray) w := by kernel_rfl
theorem zFlat : ∀ (n i r : Nat), i < n -> r < 7 -> (List.replicate n zVol).flatten[i * 7 + r]? = zVol[r]?
 | 0, _, _, h, _ => by omega
 | n + 1, 0, r, _, hr => by
  rw [List.replicate_succ, List.flatten_cons, List.getElem?_append_left (by simp [zVol]; omega)]
  simp
 | n + 1, i + 1, r, hi, hr => by
  rw [List.replicate_succ, List.flatten_cons, List.getElem?_append_right (by simp [zVol]; omega)]
  have := zFlat n i r (by omega) hr
  rw [show (i + 1) * 7 + r - zVol.length = i * 7 + r by simp [zVol]; omega]
  exact this
theorem Xc : ((List.replicate 64 zVol).flatten).length = 448 := by kernel_rfl
theorem zSt_pk {i : Nat} (h : i < 16) : zStL.toArray[i]? = some (.int .i64 0) := by
 rw [List.getElem?_toArray]
 unfold zStL
 rw [List.append_assoc, List.getElem?_append_left (by simpa using h), List.getElem?_replicate, if_pos h]
theorem xu {i r : Nat} (h : i < 64) (hr : r < 7) : zStL.toArray[16 + i * 7 + r]? = zVol[r]? := by
 rw [List.getElem?_toArray]
 unfold zStL
 rw [List.append_assoc, List.getElem?_append_right (by simp; omega), List.length_replicate, show 16 + i * 7 + r - 16 = i * 7 + r by omega, List.getElem?_append_left (by rw [Xc]; omega)]
 exact zFlat 64 i r h hr
theorem zSt_md : zStL.toArray[464]? = some (.int .i64 0) := by
 rw [List.getElem?_toArray]
 unfold zStL
 rw [List.append_assoc, List.getElem?_append_right (by simp), List.length_replicate, List.getElem?_append_right (by rw [Xc]; omega), Xc]
 rfl
theorem st0_at {w : World} {g : Nat} (h : w.heap[g]? = some (.cells zStL.toArray 57 (0, 0))) : StAt w g st0 :=
 ⟨_, fun _ => Sl.nil, fun _ => [], h, YM, fun i hi => zSt_pk hi, fun i hi => xu (r := 0) hi (by omega), fun i hi => xu (r := 1) hi (by omega), fun i hi => xu (r := 2) hi (by omega), fun i hi => xu (r := 3) hi (by omega),
  fun i hi => xu (r := 4) hi (by omega), fun i hi => xu (r := 5) hi (by omega), fun i hi => xu (r := 6) hi (by omega), zSt_md, fun i hi => KsT.nil _, fun i hi => rfl⟩
attribute [local go_sem ↓] bdSt_eq
def NewRet (w : World) (e : Ending) (w' : World) : Prop := e = .returned (.pointer (some ⟨w.heap.size, 0, none⟩)) /\ StAt w' w.heap.size st0 /\ Below w.heap.size w w'
set_option maxRecDepth 100000 in
theorem VNew (w : World) : Calls Tryz.prog 6 #[] w (NewRet w) := by
 have hbd := bdSt_run
 obtain ⟨Z, hZ⟩ : ∃ Z, zStL.toArray = Z := ⟨_, rfl⟩
 have hs := fun (V : World) (h : V.heap[w.heap.size]? = some (.cells zStL.toArray 57 (0, 0))) => st0_at h
 rw [hZ] at hbd hs
 have Hs := ihq hs
 clear hZ hs
 go_enter Tryz.func6, Tryz.ntmps6
 go_wp2
 go_ret
 exact ⟨rfl, Hs.out _ (heap_alloc_new _ _), zg _ _⟩
def pA : Pol := ⟨1000, 1, 0, 0⟩
def cA1 : Cmd := ⟨1, 2, 1, 0, pol0⟩
def cA2 : Cmd := ⟨2, 0, 9, 1, pA⟩
def cA3 : Cmd := ⟨2, 1, 1, 1, pA⟩
def pkA1 : Nat -> Int := fun i => if (i : Int) = 2 then 1 else 0
def sA1 : St := ⟨pkA1, fun _ => vol0, 0⟩
def sA2 : St := ⟨pkA1, fun j => if j = 0 then ⟨9, pA, 1, [⟨1, 0, 1, [2], []⟩, ⟨2, 0, 1, [2], []⟩]⟩ else vol0, 2⟩
theorem few_one (f : Nat -> Nat) (x : Nat) : fewF f [x] 1 = [x] := by
 unfold fewF
 rw [List.mergeSort_singleton]
 rfl
theorem Yp : zm pkA1 = [2] := by kernel_rfl
theorem adm_A1 : admS sA1 = true := by kernel_rfl
theorem adm_A2 : admS sA2 = true := by kernel_rfl
theorem awk1 : yR st0 cA1 = (sA1, 0) := by
 have h : doS st0 cA1 = (sA1, 0) := by
  unfold doS
  rw [if_pos (show cA1.k = 1 from rfl), if_pos (by decide)]
  rfl
 unfold yR
 rw [if_pos (by decide), h]
 simp [adm_A1]
theorem awk2 : yR sA1 cA2 = (sA2, 0) := by
 have h : doS sA1 cA2 = (sA2, 0) := by
  unfold doS
  rw [if_neg (by decide), if_pos (show cA2.k = 2 from rfl), if_neg (by decide), if_neg (by decide), if_neg (by rw [show zm sA1.pk = [2] from Yp]; decide)]
  unfold xz
  have e1 : (zx ((setV sA1 cA2.a.toNat ⟨cA2.b, cA2.p, 1, []⟩).vs cA2.a.toNat).bl).toNat - ((setV sA1 cA2.a.toNat ⟨cA2.b, cA2.p, 1, []⟩).vs cA2.a.toNat).ks.length = 2 := by decide
  rw [e1]
  unfold xe
  rw [show zm (setV sA1 cA2.a.toNat ⟨cA2.b, cA2.p, 1, []⟩).pk = [2] from Yp]
  simp only [yo, show cA2.c.toNat = 1 from rfl, few_one]
  unfold sA2
  congr 1
  unfold setV
  congr 1
  funext j
  by_cases e : j = 0
  ·subst e; rfl
  ·simp only [show cA2.a.toNat = 0 from rfl, if_neg e]
   rfl
 unfold yR
 rw [if_pos (by decide), h]
 simp [adm_A2]
theorem awk3 : yR sA2 cA3 = (sA2, 14) := by
 have h : ∃ s', doS sA2 cA3 = (s', 0) /\ admS s' = false := by
  unfold doS
  rw [if_neg (by decide), if_pos (show cA3.k = 2 from rfl), if_neg (by decide), if_neg (by decide), if_neg (by rw [show zm sA2.pk = [2] from Yp]; decide)]
  refine ⟨_, rfl, ?_⟩
  unfold xz
  have e1 : (zx ((setV sA2 cA3.a.toNat ⟨cA3.b, cA3.p, 1, []⟩).vs cA3.a.toNat).bl).toNat - ((setV sA2 cA3.a.toNat ⟨cA3.b, cA3.p, 1, []⟩).vs cA3.a.toNat).ks.length = 1 := by decide
  rw [e1]
  unfold xe
  rw [show zm (setV sA2 cA3.a.toNat ⟨cA3.b, cA3.p, 1, []⟩).pk = [2] from Yp]
  simp only [yo, show cA3.c.toNat = 1 from rfl, few_one]
  show admS _ = false
  kernel_rfl
 obtain ⟨s', h1, h2⟩ := h
 unfold yR
 rw [if_pos (by decide), h1]
 simp [h2]
end Go.Proofs.YteebkolccbcehaaGreat
end

section
set_option linter.all false
namespace Go.Proofs.YteebkolccbcehaaGreat
open Go.ChangeShapes Go.WideShapes Go.ChangeAt Go.RowKit
def bdCmd (parts : Array (Nat × Value)) : Sem Value := Instr.build 39 parts
theorem bdCmd_eq (parts : Array (Nat × Value)) : Instr.build 39 parts = bdCmd parts := rfl
theorem bdA1 (w : World) : (bdCmd #[(0, .int .i64 1), (1, .int .i64 2), (2, .int .i64 1)]).run Tryz.prog w = .ok (cmdA cA1) w := by kernel_rfl
theorem bdA2 (w : World) : (bdCmd #[(0, .int .i64 2), (1, .int .i64 0), (2, .int .i64 9), (3, .int .i64 1), (4, .agg #[.int .i64 1000, .int .i64 1, .int .i64 0, .int .i64 0])]).run Tryz.prog w = .ok (cmdA cA2) w := by kernel_rfl
theorem bdA3 (w : World) : (bdCmd #[(0, .int .i64 2), (1, .int .i64 1), (2, .int .i64 1), (3, .int .i64 1), (4, .agg #[.int .i64 1000, .int .i64 1, .int .i64 0, .int .i64 0])]).run Tryz.prog w = .ok (cmdA cA3) w := by kernel_rfl
theorem inA1 : yj cA1 := by constructor <;> (simp only [cA1, pol0, InP, In64]; omega)
theorem inA2 : yj cA2 := by constructor <;> (simp only [cA2, pA, InP, In64]; omega)
theorem inA3 : yj cA3 := by constructor <;> (simp only [cA3, pA, InP, In64]; omega)
theorem goodA1 : xS 1 sA1 := by
 have := (ZF good0 (Int.le_refl 0) inA1).1
 rwa [awk1] at this
theorem goodA2 : xS 2 sA2 := by
 have := (ZF goodA1 (by decide) inA2).1
 rwa [awk2] at this
theorem volA2 : yB sA2 ((0 : Nat) : Int) = true := by kernel_rfl
theorem QC {w : World} {g : Nat} {cs : Array Value} {T : TypeId} (h : w.heap[g]? = some (.cells cs T (0, 0))) (hs : cs.size = 4) (p : Pol) :
  ∃ w', (stPol (.pointer (some ⟨g, 0, none⟩)) (.agg #[.int .i64 p.re, .int .i64 p.we, .int .i64 p.li, .int .i64 p.bu])).run Tryz.prog w = .ok () w' /\ w'.heap[g]? = some (.cells #[.int .i64 p.re, .int .i64 p.we, .int .i64 p.li, .int .i64 p.bu] T (0, 0)) /\ Turned (fun k => k = g) w w' :=
 ZH (T := 37) h (by rw [hs]; rfl) Yd (by simp [Value.oneCell'])
attribute [local go_sem ↓] bdCmd_eq
attribute [local go_sem ↓] yA
attribute [local go_sem ↓] YS
attribute [local go_sem ↓] stVo_eq
set_option maxRecDepth 100000 in
set_option maxHeartbeats 2000000 in
theorem Qn (w : World) : Calls Tryz.prog 5 #[] w fun e w' => e = .returned (.bool true) /\ Below w.heap.size w w' := by
 have KN := ihq (VNew w)
 have b1 := bdA1; have b2 := bdA2; have b3 := bdA3
 go_enter Tryz.func5, Tryz.ntmps5
 go_wp2_with fail
 refine KN.out.mono ?_
 rintro e w1 ⟨rfl, hs1, hb1⟩
 obtain ⟨g, hg⟩ : ∃ g, w.heap.size = g := ⟨_, rfl⟩
 rw [hg] at hs1 ⊢
 have hg1 := hs1.lt
 obtain ⟨w2, hw2⟩ : ∃ w2, w1.alloc (.cells #[.int .i64 0, .int .i64 0, .int .i64 0, .int .i64 0] 37) = w2 := ⟨_, rfl⟩
 have hb2 : Below w1.heap.size w1 w2 := by rw [<- hw2]; exact zg _ _
 have hr2 : w2.heap[w1.heap.size]? = some (.cells #[.int .i64 0, .int .i64 0, .int .i64 0, .int .i64 0] 37 (0, 0)) := by rw [<- hw2]; exact heap_alloc_new _ _
 obtain ⟨w3, hst3, hr3, ht3⟩ := QC hr2 rfl pA
 simp only [pA] at hst3 hr3
 have hb3 : Below w1.heap.size w1 w3 := hb2.trans (ht3.below (fun k e => by omega) hb2.size)
 have hs3 := hs1.below hb3
 have KA := Qo g st0 cA1 w3 hs3 (good0.ready (Int.le_refl 0) (by decide) inA1)
 rw [awk1] at KA
 have Hg := ihq hg
 have Hb3 := ihq (hb1.trans (hb3.mono (by rw [hg]; omega))); have Hr3 := ihq hr3; have KA1 := ihq KA
 clear hb1 hs1 hb2 hr2 hr3 ht3 hb3 hs3 KA hg
 go_wp2_with fail
 refine KA1.out.mono ?_
 rintro e w4 ⟨rfl, hs4, ht4⟩
 have hr4 := ht4.heap Hr3.out (by omega)
 have hld := zZ (ZT (p := ⟨1000, 1, 0, 0⟩) hr4 (by simp only [InP, In64]; omega))
 have KA := Qo g sA1 cA2 w4 hs4 (goodA1.ready (by decide) (by decide) inA2)
 rw [awk2] at KA
 have KA2 := ihq KA; have Hr4 := ihq hr4
 have Hb4 := ihq (Hb3.out.trans (ht4.below (fun k e => by have := Hg.out; omega) Hb3.out.size))
 clear hr4 hs4 ht4 KA
 go_wp2_with fail
 refine KA2.out.mono ?_
 rintro e w5 ⟨rfl, hs5, ht5⟩
 have hr5 := ht5.heap Hr4.out (by omega)
 have KV := XG g sA2 0 w5 hs5 (goodA2.d.fit (by decide)) volA2
 have KV' := ihq KV; have Hr5 := ihq hr5; have Hs5 := ihq hs5
 have Hb5 := ihq (Hb4.out.trans (ht5.below (fun k e => by have := Hg.out; omega) Hb4.out.size))
 clear hr5 hs5 ht5 KV hld
 go_wp2_with fail
 refine KV'.out.mono ?_
 rintro e w6 ⟨S, rfl, hown6, hb6⟩
 obtain ⟨A, n, c⟩ := S
 have hn : n = 2 := by
  have := hown6.1
  rw [zz] at this
  have e2 : (idsK (sA2.vs 0).ks).length = 2 := by kernel_rfl
  simp only at this
  omega
 subst hn
 obtain ⟨w7, hw7⟩ : ∃ w7, w6.alloc (.cells #[.int .i64 0, .int .i64 0, .int .i64 0, .int .i64 0, .int .i64 0, .int .i64 0, .int .i64 0, .slice none 0 0] 49) = w7 := ⟨_, rfl⟩
 have hb7 : Below w6.heap.size w6 w7 := by rw [<- hw7]; exact zg _ _
 have hr7 : w7.heap[w6.heap.size]? = some (.cells #[.int .i64 0, .int .i64 0, .int .i64 0, .int .i64 0, .int .i64 0, .int .i64 0, .int .i64 0, .slice none 0 0] 49 (0, 0)) := by rw [<- hw7]; exact heap_alloc_new _ _
 obtain ⟨w8, hst8, hr8, ht8⟩ := stVo_run hr7 rfl (0 : Int) (sA2.vs 0).bl (sA2.vs 0).p.re (sA2.vs 0).p.we (sA2.vs 0).p.li (sA2.vs 0).p.bu (sA2.vs 0).ver ⟨A, 2, c⟩
 simp only at hst8 hr8
 have hb68 : Below w6.heap.size w6 w8 := hb7.trans (ht8.below (fun k e => by omega) hb7.size)
 have hb58 := hb6.trans (hb68.mono hb6.size)
 have hs8 := Hs5.out.below hb58
 have hr58 := za Hr5.out hb58
 have hld := zZ (ZT (p := ⟨1000, 1, 0, 0⟩) hr58 (by simp only [InP, In64]; omega))
 have KA := Qo g sA2 cA3 w8 hs8 (goodA2.ready (by decide) (by decide) inA3)
 rw [awk3] at KA
 have KA3 := ihq KA; have Hr8 := ihq hr8
 have hg6 : g < w6.heap.size := by have := hb6.size; have := Hs5.out.lt; omega
 have Hb8 := ihq (Hb5.out.trans (hb58.mono Hb5.out.size))
 clear hown6 hb6 hb7 hr7 hb68 hb58 hs8 hr58 KA hr8 ht8
 go_wp2_with fail
 refine KA3.out.mono ?_
 rintro e w9 ⟨rfl, hs9, ht9⟩
 have hr9 := ht9.heap Hr8.out (by omega)
 have d7 : w9.cell? ⟨w6.heap.size, 7, none⟩ = some (.slice A 2 c) := zc hr9 7
 have Hb9 := ihq (Hb8.out.trans (ht9.below (fun k e => by have := Hg.out; omega) Hb8.out.size))
 clear hr9 hs9 ht9 hld
 go_wp2
 go_ret
 exact ⟨rfl, Hb9.out⟩
end Go.Proofs.YteebkolccbcehaaGreat
end
