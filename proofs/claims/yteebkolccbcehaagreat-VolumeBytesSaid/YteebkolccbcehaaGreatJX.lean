/-
  Joined: Byt2, Byt3, VolRd, Byt4, Byt5. Conditions: each theorem's own.
-/
import Derived.Test.YteebkolccbcehaaGreatJN
import Derived.Test.YteebkolccbcehaaGreatJW
import Derived.Test.YteebkolccbcehaaGreatVolFil

section
set_option linter.all false
namespace Go.Proofs.YteebkolccbcehaaGreat
open Go.ChangeShapes Go.WideShapes Go.ChangeAt Go.RowKit
theorem lo_size : (Tryz.prog.info? 75).map (·.size) = some 2 := by kernel_rfl
def ldLo (p : Value) : Sem Value := Instr.loadAt 75 p
theorem ldLo_eq (p : Value) : Instr.loadAt 75 p = ldLo p := rfl
theorem ldLo_run {w : World} {g o : Nat} {a n : Int} (h0 : w.cell? ⟨g, o, none⟩ = some (.int .i64 a)) (h1 : w.cell? ⟨g, o + 1, none⟩ = some (.int .i64 n)) : (ldLo (.pointer (some ⟨g, o, none⟩))).run Tryz.prog w = .ok (.agg #[.int .i64 a, .int .i64 n]) w := by
 have hr : w.rangeAt g o [.int .i64 a, .int .i64 n] := fun j v hv => by
  match j, hv with
  | 0, hv => simp at hv; subst hv; exact h0
  | 1, hv => simp at hv; subst hv; exact h1
 exact run_loadAt_mid w g o 75 [.int .i64 a, .int .i64 n] _ hr Tryz.underlying75 rfl lo_size
def stLo (p v : Value) : Sem Unit := Instr.storeAt 75 p v
theorem stLo_eq (p v : Value) : Instr.storeAt 75 p v = stLo p v := rfl
theorem lo_new (w : World) (a n : Int) : ∃ wz w3, w.alloc (.cells #[.int .i64 0, .int .i64 0] 75) = wz /\
  (stLo (.pointer (some ⟨w.heap.size, 0, none⟩)) (.agg #[.int .i64 a, .int .i64 n])).run Tryz.prog wz = .ok () w3 /\ Below w.heap.size w w3 /\
  w3.heap[w.heap.size]? = some (.cells #[.int .i64 a, .int .i64 n] 75 (0, 0)) := by
 obtain ⟨wz, hw⟩ : ∃ wz, w.alloc (.cells #[.int .i64 0, .int .i64 0] 75) = wz := ⟨_, rfl⟩
 have hb : Below w.heap.size w wz := by rw [<- hw]; exact zg _ _
 have hr : wz.heap[w.heap.size]? = some (.cells #[.int .i64 0, .int .i64 0] 75 (0, 0)) := by rw [<- hw]; exact heap_alloc_new _ _
 obtain ⟨w3, h1, h2, h3⟩ := ZH (T := 75) (new := #[.int .i64 a, .int .i64 n]) hr rfl lo_size (by simp [Value.oneCell'])
 exact ⟨wz, w3, hw, h1, hb.trans (h3.below (fun k e => by omega) hb.size), h2⟩
def loN (pk : Nat -> Int) (i : Nat) : List Int := [(i : Int), pk i]
def voN (s : St) (i : Nat) : List Int := (i : Int) :: volN (s.vs i)
def stA (s : St) (j : Nat) : List Int := [s.md] ++ [((zm s.pk).length : Int)] ++ ((zm s.pk).take j).flatMap (loN s.pk)
def stB (s : St) (j : Nat) : List Int := stA s (zm s.pk).length ++ [((yp s 64).length : Int)] ++ ((yp s 64).take j).flatMap (voN s)
theorem XP (s : St) : stN s = stB s (yp s 64).length := by
 unfold stB stA
 rw [List.take_length, List.take_length]
 unfold stN yp loN voN
 simp only [List.append_assoc]
theorem flat_pre {α : Type} (f : α -> List Int) (l : List α) (j : Nat) : ∃ t, l.flatMap f = (l.take j).flatMap f ++ t := ⟨(l.drop j).flatMap f, by rw [<- List.flatMap_append, List.take_append_drop]⟩
theorem XI (s : St) (j : Nat) : ∃ t, stN s = stB s j ++ t := by
 obtain ⟨t, ht⟩ := flat_pre (voN s) (yp s 64) j
 refine ⟨t, ?_⟩
 rw [XP]
 unfold stB
 rw [List.take_length, ht]
 simp only [List.append_assoc]
theorem stA_pre (s : St) (j : Nat) : ∃ t, stN s = stA s j ++ t := by
 obtain ⟨t, ht⟩ := flat_pre (loN s.pk) (zm s.pk) j
 obtain ⟨t2, ht2⟩ := XI s 0
 refine ⟨t ++ [((yp s 64).length : Int)] ++ t2, ?_⟩
 rw [ht2]
 unfold stB stA
 rw [List.take_length, ht]
 simp [List.append_assoc]
theorem stA_step {s : St} {j x : Nat} (h : (zm s.pk)[j]? = some x) : stA s (j + 1) = stA s j ++ loN s.pk x := by
 obtain ⟨h1, h2⟩ := List.getElem?_eq_some_iff.1 h
 unfold stA
 rw [List.take_succ_eq_append_getElem h1, h2, List.flatMap_append, <- List.append_assoc]
 simp
theorem stB_step {s : St} {j x : Nat} (h : (yp s 64)[j]? = some x) : stB s (j + 1) = stB s j ++ voN s x := by
 obtain ⟨h1, h2⟩ := List.getElem?_eq_some_iff.1 h
 unfold stB
 rw [List.take_succ_eq_append_getElem h1, h2, List.flatMap_append, <- List.append_assoc]
 simp
theorem volN_eq (v : Vol) : volN v = volT v v.ks.length := by unfold volN volT; rw [List.take_length]
theorem stN_in {s : St} (hf : yF s) : ∀ x ∈ stN s, In64 x := fun x hx => by
 rw [XP] at hx
 unfold stB stA at hx
 rw [List.take_length, List.take_length] at hx
 simp only [List.mem_append, List.mem_singleton, List.mem_flatMap] at hx
 have hm := hf.md
 have h1 := xM s.pk 16
 have h2 := Zq s 64
 rcases hx with (((rfl | rfl) | ⟨i, hi, hx⟩) | rfl) | ⟨i, hi, hx⟩
 ·unfold In64; omega
 ·have : (zm s.pk).length <= 16 := h1
  unfold In64; omega
 ·obtain ⟨h3, h4⟩ := XJ hi
  have := hf.pk i h3
  unfold loN at hx
  simp only [List.mem_cons, List.not_mem_nil, or_false] at hx
  rcases hx with rfl | rfl <;> (unfold In64; omega)
 ·unfold In64; omega
 ·obtain ⟨h3, _⟩ := xW hi
  unfold voN at hx
  rcases List.mem_cons.1 hx with rfl | hx
  ·unfold In64; omega
  ·rw [volN_eq] at hx
   exact (Yo (hf.vs i h3) _).1 x hx
theorem pre_len {s : St} (hf : yF s) (hl : (stN s).length <= 70000) {p : List Int} (h : ∃ t, stN s = p ++ t) : (putB p).length <= 630000 := by
 obtain ⟨t, ht⟩ := h
 have h1 := xa p fun x hx => stN_in hf x (by rw [ht]; exact List.mem_append_left _ hx)
 have h2 : p.length <= (stN s).length := by rw [ht, List.length_append]; omega
 omega
theorem IsW.rowO {w w' : World} {B g base z n : Nat} {r : Option Nat} {xs : List UInt8} {T : TypeId} {v : Value} {ys : List Value} (h : IsW w B g r xs) (ht : Turned (fun k => k = g \/ r = some k) w w') (ho : w.ownsRow base T z v n ys) (h1 : T ≠ 70) (h2 : T ≠ 5) : w'.ownsRow base T z v n ys :=
 ze ht ho fun k hk e => by
  obtain ⟨cs, hc⟩ := zD ho hk
  exact h.noT h1 h2 _ _ _ e hc
end Go.Proofs.YteebkolccbcehaaGreat
end

section
set_option linter.all false
namespace Go.Proofs.YteebkolccbcehaaGreat
open Go.ChangeShapes Go.WideShapes Go.ChangeAt Go.RowKit
attribute [local go_sem ↓] ldLo_eq stLo_eq
set_option maxRecDepth 100000 in
set_option maxHeartbeats 4000000 in
theorem VBytes (g : Nat) (s : St) (w : World) (h : StAt w g s) (hf : yF s) (hl : (stN s).length <= 70000) :
  Calls Tryz.prog 11 #[.pointer (some ⟨g, 0, none⟩)] w (Zd 5 (zT (y6 s)) w) := by
 obtain ⟨w1, hw1⟩ : ∃ w1, w.alloc (.cells #[.slice none 0 0] 70) = w1 := ⟨_, rfl⟩
 have hz : IsW w1 w.heap.size w.heap.size none [] := by rw [<- hw1]; exact IsW.zero w _ (Nat.le_refl _)
 have hb1 : Below w.heap.size w w1 := by rw [<- hw1]; exact zg _ _
 obtain ⟨B, hB⟩ : ∃ B, w.heap.size = B := ⟨_, rfl⟩
 rw [hB] at hz
 have hin := stN_in hf
 have hP := fun (p : List Int) (h : ∃ t, stN s = p ++ t) => pre_len hf hl h
 obtain ⟨cs, K, X, h0⟩ := h.below hb1
 have a0 : w1.cell? ⟨g, 464, none⟩ = some (.int .i64 s.md) := by rw [h0.cell, h0.md]
 have hm := hf.md
 have KW := ihq (Zi B B none [] s.md w1 hz (by simp) (by omega) (by omega))
 have H := ihq h0; have Hf := ihq hf; have Hz := ihq hz; have HP := ihq hP; have Hb1 := ihq hb1; have HB := ihq hB
 clear h hf hz hb1 hin hP h0 hl hm hB
 go_enter Tryz.func11, Tryz.ntmps11
 go_wp2_with fail
 rw [HB.out]
 refine KW.out.mono ?_
 rintro e w2 ⟨rfl, hg2⟩
 rw [List.nil_append, <- xq] at hg2
 obtain ⟨q2, hq2, hr2, ht2⟩ := hg2
 have h2 := Hz.out.stC ht2 H.out
 have KS := ihq (Zk g s w2 ⟨cs, K, X, h2⟩)
 obtain ⟨ns, hns⟩ : ∃ ns, (zm s.pk).length = ns := ⟨_, rfl⟩
 have hn16 : ns <= 16 := by rw [<- hns]; exact xM s.pk 16
 rw [hns] at KS
 have Hq2 := ihq hq2; have HR2 := ihq (And.intro hr2 ht2); have H2 := ihq h2; have Hns := ihq hns
 clear hq2 hr2 ht2 h2 KW a0 hns
 go_wp2_with fail
 refine KS.out.mono ?_
 rintro e w3 ⟨A3, c3, rfl, hown3, hb3⟩
 have hw3 := Hq2.out.bel hb3
 have hR3 : (∀ k, q2 = some k -> none = some k \/ w1.heap.size <= k) /\ Turned (fun k => k = B \/ none = some k) w1 w3 := ⟨HR2.out.1, HR2.out.2.trans (Turned.of_below hb3 (p := fun _ => False)) (fun _ e => e) (fun _ _ e => e.elim)⟩
 have hlen : (putB [s.md]).length <= 630000 := HP.out _ (by obtain ⟨t, ht⟩ := stA_pre s 0; exact ⟨[((zm s.pk).length : Int)] ++ t, by rw [ht]; simp [stA]⟩)
 have KW3 := ihq (Zi B B q2 (putB [s.md]) (ns : Int) w3 hw3 (by omega) (by omega) (by omega))
 have HW3 := ihq hw3; have HR3 := ihq hR3; have H3 := ihq (H2.out.below hb3); have Ho3 := ihq hown3
 clear hown3 hb3 hw3 hR3 hlen KS
 go_wp2_with fail
 refine KW3.out.mono ?_
 rintro e w4 ⟨rfl, hg4⟩
 have hg4' := yh.then HW3.out HR3.out hg4
 obtain ⟨_, _, _, hu4⟩ := hg4
 have ho4 := HW3.out.rowO hu4 Ho3.out (by decide) (by decide)
 have h4 := HW3.out.stC hu4 H3.out
 have e4 : putB [s.md] ++ numB (ns : Int).toNat = putB (stA s 0) := by rw [<- xq, <- zI]; simp [stA, Hns.out]
 rw [e4] at hg4'
 have Hg4 := ihq hg4'; have Ho4 := ihq ho4; have H4 := ihq h4
 clear hg4' hu4 ho4 h4 e4 KW3
 go_wp2
 go_loopw [22] (fun iv wr => ∃ j : Nat, j <= ns /\ iv = .int .i64 (j : Int) /\ yh B B none (putB (stA s j)) w1 wr /\ wr.ownsRow w2.heap.size 75 2 (.slice A3 ns c3) ns (ZI s.pk (zm s.pk))) (fun iv _ => ns - (intOf iv).toNat)
 case atStart => exact ⟨0, Nat.zero_le _, rfl, Hg4.out, Ho4.out⟩
 case round =>
  obtain ⟨j, hjn, rfl, hg, ho⟩ := hrel
  by_cases hj : j < ns
  ·obtain ⟨r1, hw5, hr1, ht1⟩ := hg
   have j0 : (0 : Int) <= (j : Int) := by omega
   have j1 : (j : Int) < (ns : Int) := by omega
   obtain ⟨x, hx⟩ : ∃ x, (zm s.pk)[j]? = some x := ⟨_, List.getElem?_eq_getElem (by have := Hns.out; omega)⟩
   obtain ⟨hx16, _⟩ := XJ (List.mem_of_getElem? hx)
   have hpk := Hf.out.pk x hx16
   have hst := stA_step hx
   have L := HP.out _ (stA_pre s (j + 1))
   rw [hst, zI] at L
   obtain ⟨pv, hpv⟩ : ∃ pv, s.pk x = pv := ⟨_, rfl⟩
   rw [hpv] at hpk
   have hst2 : stA s (j + 1) = stA s j ++ [(x : Int), pv] := by rw [hst]; unfold loN; rw [hpv]
   obtain ⟨d0, d1⟩ := Za s.pk hx
   rw [hpv] at d1
   rcases ye ho with h0 | ⟨ga, oa, hA, hc⟩
   ·rw [h0] at d0; cases d0
   have D0 := hc _ _ d0
   have D1 := hc _ _ d1
   rw [<- Nat.add_assoc] at D1
   have hld := ldLo_run D0 D1
   subst hA
   obtain ⟨wz, w7, hwz, hst7, hb7, hr7⟩ := lo_new wr (x : Int) pv
   have c0 : w7.cell? ⟨wr.heap.size, 0, none⟩ = some (.int .i64 (x : Int)) := zc hr7 0
   have c1 : w7.cell? ⟨wr.heap.size, 1, none⟩ = some (.int .i64 pv) := zc hr7 1
   obtain ⟨w8, hw8⟩ : ∃ w8, w7.alloc (.cells #[.int .i64 (x : Int), .int .i64 pv] 3) = w8 := ⟨_, rfl⟩
   have hb8 : Below w7.heap.size w7 w8 := by rw [<- hw8]; exact zg _ _
   have hi8 : zQ w8 ⟨some ⟨w7.heap.size, 0, none⟩, 2, 2⟩ [(x : Int), pv] := by rw [<- hw8]; exact two_ints (heap_alloc_new _ _)
   have hb18 := hb7.trans (hb8.mono hb7.size)
   have hw18 := hw5.bel hb18
   have hr18 : (∀ k, r1 = some k -> none = some k \/ w1.heap.size <= k) /\ Turned (fun k => k = B \/ none = some k) w1 w8 := ⟨hr1, ht1.trans (Turned.of_below hb18 (p := fun _ => False)) (fun _ e => e) (fun _ _ e => e.elim)⟩
   have KP := ihq (Y8 B B r1 _ _ [(x : Int), pv] w8 hw18 (by rw [List.length_append] at L; omega) hi8 (by simp) (fun y hy => by simp only [List.mem_cons, List.not_mem_nil, or_false] at hy; rcases hy with rfl | rfl <;> (unfold In64; omega)))
   have HW8 := ihq hw18; have HR8 := ihq hr18; have Ho8 := ihq (zh ho hb18); have Hst2 := ihq hst2
   clear hw5 hr1 ht1 hx hst hst2 L d0 d1 hc hb7 hr7 hb8 hi8 hb18 hw18 hr18 ho hpk hpv
   go_wp2_with (go_at_call 28; refine KP.out.mono ?_; rintro e w9 ⟨rfl, hg9⟩; have Hg9 := ihq hg9; clear hg9)
   go_roundw
   case rel =>
    have hg9' := yh.then HW8.out HR8.out Hg9.out
    obtain ⟨_, _, _, hu9⟩ := Hg9.out
    rw [<- zI, <- Hst2.out] at hg9'
    exact ⟨j + 1, by omega, by go_num, hg9', HW8.out.rowO hu9 Ho8.out (by decide) (by decide)⟩
   case measure => simp [intOf]; omega
  ·obtain rfl : j = ns := by omega
   have j1 : ¬ (j : Int) < (j : Int) := by omega
   obtain ⟨wq, hwq⟩ : ∃ wq, wq = wr := ⟨_, rfl⟩
   subst hwq
   obtain ⟨r5, hw5, hr5, ht5⟩ := hg
   have h5 := Hz.out.stC ht5 H.out
   have KV := ihq (Ql g s wq ⟨cs, K, X, h5⟩)
   obtain ⟨nv, hnv⟩ : ∃ nv, (yp s 64).length = nv := ⟨_, rfl⟩
   have hn64 : nv <= 64 := by rw [<- hnv]; exact Zq s 64
   rw [hnv] at KV
   have HW5 := ihq hw5; have HR5 := ihq (And.intro hr5 ht5); have Hnv := ihq hnv
   clear hw5 hr5 ht5 h5 ho hnv
   go_wp2_with fail
   refine KV.out.mono ?_
   rintro e w6 ⟨A6, c6, rfl, hown6, hb6⟩
   have hw6 := HW5.out.bel hb6
   have hR6 : (∀ k, r5 = some k -> none = some k \/ w1.heap.size <= k) /\ Turned (fun k => k = B \/ none = some k) w1 w6 := ⟨HR5.out.1, HR5.out.2.trans (Turned.of_below hb6 (p := fun _ => False)) (fun _ e => e) (fun _ _ e => e.elim)⟩
   have hlen : (putB (stA s j)).length <= 630000 := HP.out _ (stA_pre s j)
   have KW6 := ihq (Zi B B r5 _ (nv : Int) w6 hw6 (by omega) (by omega) (by omega))
   have HW6 := ihq hw6; have HR6 := ihq hR6; have Ho6 := ihq hown6
   clear hown6 hb6 hw6 hR6 hlen KV
   go_wp2_with fail
   refine KW6.out.mono ?_
   rintro e w7 ⟨rfl, hg7⟩
   have hg7' := yh.then HW6.out HR6.out hg7
   obtain ⟨_, _, _, hu7⟩ := hg7
   have ho7 := HW6.out.rowO hu7 Ho6.out (by decide) (by decide)
   have e7 : putB (stA s j) ++ numB (nv : Int).toNat = putB (stB s 0) := by rw [<- xq, <- zI]; simp [stB, Hns.out, Hnv.out]
   rw [e7] at hg7'
   have Hg7 := ihq hg7'; have Ho7 := ihq ho7
   clear hg7' hu7 ho7 e7 KW6 j1
   go_wp2
   go_loopw [40] (fun iv wr => ∃ t : Nat, t <= nv /\ iv = .int .i64 (t : Int) /\ yh B B none (putB (stB s t)) w1 wr /\ wr.ownsRow wq.heap.size 3 1 (.slice A6 nv c6) nv (zo (toI (yp s 64)))) (fun iv _ => nv - (intOf iv).toNat)
   case atStart => exact ⟨0, Nat.zero_le _, rfl, Hg7.out, Ho7.out⟩
   case round =>
    obtain ⟨t, htn, rfl, hg, ho⟩ := hrel
    by_cases ht : t < nv
    ·obtain ⟨r8, hw8, hr8, ht8⟩ := hg
     have t0 : (0 : Int) <= (t : Int) := by omega
     have t1 : (t : Int) < (nv : Int) := by omega
     obtain ⟨x, hx⟩ : ∃ x, (yp s 64)[t]? = some x := ⟨_, List.getElem?_eq_getElem (by have := Hnv.out; omega)⟩
     obtain ⟨hx64, _⟩ := xW (List.mem_of_getElem? hx)
     have hst := stB_step hx
     have L := HP.out _ (XI s (t + 1))
     have L0 := HP.out _ (XI s t)
     rw [hst] at L
     have es : stB s t ++ voN s x = stB s t ++ [(x : Int)] ++ volN (s.vs x) := by unfold voN; simp
     rw [es, zI, zI] at L
     simp only [List.length_append] at L
     rcases ye ho with h0 | ⟨ga, oa, hA, hc⟩
     ·have e := (List.getElem?_eq_some_iff.1 hx).1
      have e5 := congrArg List.length h0
      rw [zz, xI] at e5
      simp at e5; rw [e5] at e; simp at e
     have d0 : wr.cell? ⟨ga, oa + t, none⟩ = some (.int .i64 (x : Int)) := hc t _ (by unfold zo toI; rw [List.getElem?_map, List.getElem?_map, hx]; rfl)
     subst hA
     have x0 : (0 : Int) <= (x : Int) := by omega
     have x1 : (x : Int) < 64 := by omega
     have KX := ihq (Zi B B r8 _ (x : Int) wr hw8 (by omega) (by omega) (by omega))
     have HW8 := ihq hw8; have HR8 := ihq (And.intro hr8 ht8); have Ho8 := ihq ho; have Hst := ihq (hst.trans es); have HL := ihq L; have H8 := ihq (Hz.out.stC ht8 H.out)
     clear hw8 hr8 ht8 ho hst L L0 es hx hc
     go_wp2_with fail
     refine KX.out.mono ?_
     rintro e w9 ⟨rfl, hg9⟩
     obtain ⟨q9, hq9, hr9, ht9⟩ := yh.then HW8.out HR8.out hg9
     obtain ⟨_, _, _, hu9⟩ := hg9
     have h9 := HW8.out.stC hu9 H8.out
     rw [<- xq, <- zI] at hq9
     have KY := ihq (Vput B B g x q9 _ s w9 hq9 (by rw [zI, List.length_append]; have := HL.out; omega) ⟨cs, K, X, h9⟩ Hf.out hx64)
     have HW9 := ihq hq9; have HR9 := ihq (And.intro hr9 ht9); have Ho9 := ihq (HW8.out.rowO hu9 Ho8.out (by decide) (by decide))
     clear hq9 hr9 ht9 hu9 h9 KX d0
     go_wp2_with fail
     refine KY.out.mono ?_
     rintro e w10 ⟨rfl, hg10⟩
     have hg10' := yh.then HW9.out HR9.out hg10
     obtain ⟨_, _, _, hu10⟩ := hg10
     rw [<- zI, <- Hst.out] at hg10'
     have Hg10 := ihq hg10'; have Ho10 := ihq (HW9.out.rowO hu10 Ho9.out (by decide) (by decide))
     clear hg10' hu10 KY
     go_wp2
     go_roundw
     case rel => exact ⟨t + 1, by omega, by go_num, Hg10.out, Ho10.out⟩
     case measure => simp [intOf]; omega
    ·obtain rfl : t = nv := by omega
     have t1 : ¬ (t : Int) < (t : Int) := by omega
     obtain ⟨r8, hw8, hr8, ht8⟩ := hg
     have L0 := HP.out _ (XI s t)
     have KB := ihq (WBytes_any B B r8 _ wr hw8 (by omega))
     have Hb8 := ihq (show Below w.heap.size w wr from Hb1.out.trans (ht8.below (fun k e => by
      rcases e with e | e
      ·have := HB.out; omega
      ·cases e) Hb1.out.size))
     have en : y6 s = putB (stB s t) := by unfold y6; rw [XP, Hnv.out]
     have Hen := ihq en
     clear hw8 hr8 ht8 ho L0 en
     go_wp2_with (go_at_call 31; refine KB.out.mono ?_; rintro e w9 ⟨A9, c9, rfl, hown9, hb9⟩; have Hown9 := ihq hown9; have Hb9 := ihq hb9; clear hown9 hb9)
     go_ret
     rw [Hen.out]
     exact ⟨A9, c9, rfl, own_base Hown9.out Hb8.out.size, Hb8.out.trans (Hb9.out.mono Hb8.out.size)⟩
end Go.Proofs.YteebkolccbcehaaGreat
end

section
set_option linter.all false
namespace Go.Proofs.YteebkolccbcehaaGreat
open Go.ChangeShapes Go.WideShapes Go.ChangeAt Go.RowKit
def rdM (bs : List UInt8) (e : Nat) : Nat × List UInt8 × Nat := zM bs e 9223372036854775807
theorem rdM_most (bs : List UInt8) (e : Nat) : (rdM bs e).1 < 9223372036854775808 := by
 unfold rdM zM
 split
 ·simp
 ·split
  ·simp
  ·split
   ·simp
   ·simp only; omega
def NonN (c : Cmd) : Prop := ∀ x ∈ numsC c ++ xP c.p, 0 <= x /\ x <= 9223372036854775807
theorem NonN.of {a1 a2 a3 a4 a5 a6 a7 a8 : Nat} (h1 : a1 < 9223372036854775808) (h2 : a2 < 9223372036854775808) (h3 : a3 < 9223372036854775808) (h4 : a4 < 9223372036854775808) (h5 : a5 < 9223372036854775808) (h6 : a6 < 9223372036854775808) (h7 : a7 < 9223372036854775808) (h8 : a8 < 9223372036854775808) :
  NonN ⟨a1, a2, a3, a4, ⟨a5, a6, a7, a8⟩⟩ := by
 intro x hx
 simp only [numsC, xP, List.cons_append, List.nil_append, List.mem_cons, List.not_mem_nil, or_false] at hx
 rcases hx with rfl | rfl | rfl | rfl | rfl | rfl | rfl | rfl <;> omega
theorem Vnum (g e a e' : Nat) (bs b' : List UInt8) (w : World) (h : IsR w g bs e) (hr : rdM bs e = (a, b', e')) :
  Calls Tryz.prog 93 #[.pointer (some ⟨g, 0, none⟩)] w fun en w' => en = .returned (.int .i64 (a : Int)) /\ IsR w' g b' e' /\ Turned (fun k => k = g) w w' := by
 have KN := xi g e bs 9223372036854775807 w h (by omega) (by omega)
 have hr' : zM bs e 9223372036854775807 = (a, b', e') := hr
 rw [hr'] at KN
 have KN' := ihq KN
 clear KN hr hr' h
 go_enter Tryz.func93, Tryz.ntmps93
 go_wp2_with (go_at_call 21; refine KN'.out.mono ?_; rintro en w1 ⟨rfl, hi, ht⟩; have Hi := ihq hi; have Ht := ihq ht; clear hi ht)
 go_ret
 exact ⟨rfl, Hi.out, Ht.out⟩
attribute [local go_sem ↓] YS
set_option maxRecDepth 100000 in
set_option maxHeartbeats 2000000 in
theorem VreadPolicy (g e a1 e1 a2 e2 a3 e3 a4 e4 : Nat) (bs b1 b2 b3 b4 : List UInt8) (w : World) (h : IsR w g bs e) (h1 : rdM bs e = (a1, b1, e1)) (h2 : rdM b1 e1 = (a2, b2, e2)) (h3 : rdM b2 e2 = (a3, b3, e3)) (h4 : rdM b3 e3 = (a4, b4, e4)) :
  Calls Tryz.prog 59 #[.pointer (some ⟨g, 0, none⟩)] w fun en w' => en = .returned (.agg #[.int .i64 (a1 : Int), .int .i64 (a2 : Int), .int .i64 (a3 : Int), .int .i64 (a4 : Int)]) /\ IsR w' g b4 e4 /\ Turned (fun k => k = g) w w' := by
 obtain ⟨w1, hw1⟩ : ∃ w1, w.alloc (.cells #[.int .i64 0, .int .i64 0, .int .i64 0, .int .i64 0] 37) = w1 := ⟨_, rfl⟩
 have hb1 : Below w.heap.size w w1 := by rw [<- hw1]; exact zg _ _
 have hr1 : w1.heap[w.heap.size]? = some (.cells #[.int .i64 0, .int .i64 0, .int .i64 0, .int .i64 0] 37 (0, 0)) := by rw [<- hw1]; exact heap_alloc_new _ _
 have hgl := h.lt
 have K1 := ihq (Vnum g e a1 e1 bs b1 w1 (h.below hb1) h1)
 have Hb1 := ihq hb1; have Hr1 := ihq hr1; have H2 := ihq h2; have H3 := ihq h3; have H4 := ihq h4
 clear h h1 h2 h3 h4 hb1 hr1
 go_enter Tryz.func59, Tryz.ntmps59
 go_wp2_with fail
 refine K1.out.mono ?_
 rintro en w2 ⟨rfl, hi2, ht2⟩
 have K2 := ihq (Vnum g e1 a2 e2 b1 b2 w2 hi2 H2.out)
 have Ht2 := ihq ht2
 clear hi2 ht2
 go_wp2_with fail
 refine K2.out.mono ?_
 rintro en w3 ⟨rfl, hi3, ht3⟩
 have K3 := ihq (Vnum g e2 a3 e3 b2 b3 w3 hi3 H3.out)
 have Ht3 := ihq (Ht2.out.trans ht3 (fun _ e => e) (fun _ _ e => e) (r := fun k => k = g))
 clear hi3 ht3
 go_wp2_with fail
 refine K3.out.mono ?_
 rintro en w4 ⟨rfl, hi4, ht4⟩
 have K4 := ihq (Vnum g e3 a4 e4 b3 b4 w4 hi4 H4.out)
 have Ht4 := ihq (Ht3.out.trans ht4 (fun _ e => e) (fun _ _ e => e) (r := fun k => k = g))
 clear hi4 ht4
 go_wp2_with fail
 refine K4.out.mono ?_
 rintro en w5 ⟨rfl, hi5, ht5⟩
 have t5 := Ht4.out.trans ht5 (fun _ e => e) (fun _ _ e => e) (r := fun k => k = g)
 obtain ⟨w6, hst, hr6, ht6⟩ := QC (t5.heap Hr1.out (by omega)) rfl ⟨a1, a2, a3, a4⟩
 simp only at hst hr6
 have Hi6 := ihq (hi5.far ht6 (fun k hk => by omega))
 have Ht6 := ihq (((Turned.of_below (p := fun k => k = g) Hb1.out).trans t5 (fun _ e => e) (fun _ _ e => e) (r := fun k => k = g)).trans ht6 (fun _ e => e) (fun k hk e => by omega) (r := fun k => k = g))
 have Hr6 := ihq hr6
 clear hi5 ht5 t5 hr6 ht6
 go_wp2
 refine bodyPost_ret (results_cell_row rfl _ _ w.heap.size 37 _ (0, 0) _ rfl Hr6.out Tryz.underlying37 rfl Yd) rfl ⟨rfl, Hi6.out, Ht6.out⟩
def stCmd (p v : Value) : Sem Unit := Instr.storeAt 39 p v
theorem stCmd_eq (p v : Value) : Instr.storeAt 39 p v = stCmd p v := rfl
attribute [local go_sem ↓] stCmd_eq
attribute [local go_sem ↓] yK
attribute [local go_sem ↓] bdCmd_eq
end Go.Proofs.YteebkolccbcehaaGreat
end

section
set_option linter.all false
namespace Go.Proofs.YteebkolccbcehaaGreat
open Go.ChangeShapes Go.WideShapes Go.ChangeAt Go.RowKit
def Q5 (s : St) : Prop := ∀ i, i < 64 -> ∀ k ∈ (s.vs i).ks, k.ms.length <= 4 /\ k.js.length <= 4
theorem Qe : ∀ (last : Int) (l : List Chk), (∀ k ∈ l, k.ms.length <= 4 /\ k.js.length <= 4) -> (yM last l).length <= 12 * l.length
 | _, [], _ => by simp [yM]
 | last, k :: r, h => by
  have h1 := Qe k.id r fun x hx => h x (by simp [hx])
  have h2 := h k (by simp)
  unfold yM chkN Z7
  simp only [List.length_append, List.length_cons, List.length_nil]
  omega
theorem X1 {α : Type} (f : α -> List Int) (m : Nat) : ∀ (l : List α), (∀ x ∈ l, (f x).length <= m) -> (l.flatMap f).length <= m * l.length
 | [], _ => by simp
 | a :: l, h => by
  have h1 := X1 f m l fun x hx => h x (by simp [hx])
  have h2 := h a (by simp)
  rw [List.flatMap_cons, List.length_append, List.length_cons, Nat.mul_add]
  omega
theorem XH {s : St} (hf : yF s) (h4 : Q5 s) : (stN s).length <= 50000 := by
 rw [XP]
 unfold stB stA
 rw [List.take_length, List.take_length]
 have h1 := X1 (loN s.pk) 2 (zm s.pk) fun x _ => by simp [loN]
 have h2 := X1 (voN s) 775 (yp s 64) fun x hx => by
  obtain ⟨hx64, _⟩ := xW hx
  have h3 := Qe 0 (s.vs x).ks (h4 x hx64)
  have h5 := (hf.vs x hx64).kl
  unfold voN volN xP
  simp only [List.length_append, List.length_cons, List.length_nil]
  omega
 have h3 : (zm s.pk).length <= 16 := xM s.pk 16
 have h4 := Zq s 64
 simp only [List.length_append, List.length_cons, List.length_nil]
 omega
theorem yy.four {n : Int} {s : St} (h : yy n s) : Q5 s := fun i hi k hk => by
 have := ((h.vs i hi).ks k hk).len
 omega
def rdL : Nat -> Int -> List UInt8 -> Nat -> List Int × List UInt8 × Nat
 | 0, _, bs, e => ([], bs, e)
 | k + 1, m, bs, e => ((rdL k m bs e).1 ++ [((zM (rdL k m bs e).2.1 (rdL k m bs e).2.2 m).1 : Int)], (zM (rdL k m bs e).2.1 (rdL k m bs e).2.2 m).2.1, (zM (rdL k m bs e).2.1 (rdL k m bs e).2.2 m).2.2)
theorem YF : ∀ (k : Nat) (m : Int) (bs : List UInt8) (e : Nat), (rdL k m bs e).1.length = k
 | 0, _, _, _ => rfl
 | k + 1, m, bs, e => by simp [rdL, YF k m bs e]
theorem yD {bs : List UInt8} {e : Nat} {most : Int} (h0 : 0 <= most) : ((zM bs e most).1 : Int) <= most := by
 unfold zM
 split
 ·simpa using h0
 ·split
  ·simpa using h0
  ·split
   ·simpa using h0
   ·rename_i h; exact Int.not_lt.1 h
theorem rdL_in : ∀ (k : Nat) {m : Int} (h0 : 0 <= m) (bs : List UInt8) (e : Nat), ∀ x ∈ (rdL k m bs e).1, 0 <= x /\ x <= m
 | 0, _, _, _, _, x, hx => by cases hx
 | k + 1, m, h0, bs, e, x, hx => by
  rcases List.mem_append.1 (show x ∈ (rdL k m bs e).1 ++ _ from hx) with hx | hx
  ·exact rdL_in k h0 bs e x hx
  ·rw [List.mem_singleton] at hx
   subst hx
   exact ⟨by omega, yD h0⟩
def xn (bs : List UInt8) (e : Nat) : List Int × List UInt8 × Nat := rdL (zM bs e 4).1 15 (zM bs e 4).2.1 (zM bs e 4).2.2
theorem QF (bs : List UInt8) (e : Nat) : (∀ x ∈ (xn bs e).1, 0 <= x /\ x <= 15) /\ (xn bs e).1.length <= 4 := by
 refine ⟨rdL_in _ (by omega) _ _, ?_⟩
 unfold xn
 rw [YF]
 have := yD (bs := bs) (e := e) (most := 4) (by omega)
 omega
def Yx (g : Nat) (bs : List UInt8) (e : Nat) (w : World) (en : Ending) (w' : World) : Prop :=
 ∃ A c, en = .returned (.slice A (xn bs e).1.length c) /\ w'.ownsRow w.heap.size 3 1 (.slice A (xn bs e).1.length c) (xn bs e).1.length (zo (xn bs e).1) /\ IsR w' g (xn bs e).2.1 (xn bs e).2.2 /\ Turned (fun k => k = g) w w'
set_option maxRecDepth 100000 in
set_option maxHeartbeats 2000000 in
theorem Q0 (g e : Nat) (bs : List UInt8) (w : World) (h : IsR w g bs e) :
  Calls Tryz.prog 61 #[.pointer (some ⟨g, 0, none⟩)] w (Yx g bs e w) := by
 have KN := ihq (xi g e bs 4 w h (by omega) (by omega))
 have hgl := h.lt
 have hm4 := yD (bs := bs) (e := e) (most := 4) (by omega)
 obtain ⟨n, b1, e1, hr⟩ : ∃ n b1 e1, zM bs e 4 = (n, b1, e1) := ⟨_, _, _, rfl⟩
 rw [hr] at KN hm4
 have hdef : xn bs e = rdL n 15 b1 e1 := by unfold xn; rw [hr]
 have Hdef := ihq hdef
 have hn4 : n <= 4 := by simp only at hm4; omega
 clear h hr hm4 hdef
 go_enter Tryz.func61, Tryz.ntmps61
 go_wp2_with fail
 refine KN.out.mono ?_
 rintro en w1 ⟨rfl, hi1, ht1⟩
 have Hi1 := ihq hi1; have Ht1 := ihq ht1
 clear hi1 ht1 KN
 simp only
 go_wp2
 go_loopw [3, 6] (fun sv iv wr => ∃ (j : Nat) (A' : Option Addr) (c' : Nat), j <= n /\ iv = .int .i64 (j : Int) /\ sv = .slice A' j c' /\ wr.ownsRow w.heap.size 3 1 (.slice A' j c') j (zo (rdL j 15 b1 e1).1) /\ IsR wr g (rdL j 15 b1 e1).2.1 (rdL j 15 b1 e1).2.2 /\ Turned (fun k => k = g) w wr) (fun _ iv _ => n - (intOf iv).toNat)
 case atStart => exact ⟨0, _, _, Nat.zero_le _, rfl, rfl, World.ownsRow_nil _ _ _ _, Hi1.out, Ht1.out⟩
 case round =>
  obtain ⟨j, A', c', hjn, rfl, rfl, ho, hi, ht⟩ := hrel
  by_cases hj : j < n
  ·have j0 : (0 : Int) <= (j : Int) := by omega
   have j1 : (j : Int) < (n : Int) := by omega
   have KM := ihq (xi g _ _ 15 wr hi (by omega) (by omega))
   obtain ⟨x, hx⟩ : ∃ x, ((zM (rdL j 15 b1 e1).2.1 (rdL j 15 b1 e1).2.2 15).1 : Int) = x := ⟨_, rfl⟩
   rw [hx] at KM
   have Ho := ihq ho; have Ht := ihq ht; have Hx := ihq hx
   clear ho hi ht hx
   go_wp2_with fail
   refine KM.out.mono ?_
   rintro en w2 ⟨rfl, hi2, ht2⟩
   have ho2 := ht2.own Ho.out (fun b hb e => by have := (Ho.out.lt b hb).1; omega)
   obtain ⟨w3, hw3⟩ : ∃ w3, w2.alloc (.cells #[.int .i64 x] 3) = w3 := ⟨_, rfl⟩
   have hb3 : Below w2.heap.size w2 w3 := by rw [<- hw3]; exact zg _ _
   have hs3 : Seen w3 (some ⟨w2.heap.size, 0, none⟩) [.int .i64 x] := by rw [<- hw3]; exact Seen.of_cells (heap_alloc_new _ _)
   have Ho3 := ihq (ZP ho2 hb3); have Hs3 := ihq hs3; have Hi3 := ihq (hi2.below hb3)
   have Ht3 := ihq ((Ht.out.trans ht2 (fun _ e => e) (fun _ _ e => e) (r := fun k => k = g)).trans (Turned.of_below hb3 (p := fun _ => False)) (fun _ e => e) (fun _ _ e => e.elim) (r := fun k => k = g))
   have hsz : w.heap.size <= w3.heap.size := Nat.le_trans Ht.out.size (Nat.le_trans ht2.size hb3.size)
   have Hsz := ihq hsz
   clear hi2 ht2 ho2 hb3 hs3 KM hsz
   go_wp2_with (at_builtin; refine ym rfl (.tmp 8) (.tmp 11) _ rfl 3 _ 8 Tryz.underlying28 zP rfl w.heap.size A' j c' (zo (rdL j 15 b1 e1).1) rfl Ho3.out _ 1 1 [.int .i64 x] rfl rfl Hs3.out (by simp [Value.oneCell']) (by unfold maxLen; omega) (by omega) Hsz.out ?_; intro A4 c4 w4 hown4 hg4 hbk4; have Hown4 := ihq hown4; have Hg4 := ihq hg4; clear hown4 hg4 hbk4)
   go_roundw
   case rel =>
    have tg : Turned (fun k => (Value.slice A' j c').ownBlock = some k) w3 w4 := Turned.of_grown Hg4.out fun k e => e
    refine ⟨j + 1, A4, c4, by omega, by go_num, rfl, ?_, ?_, ?_⟩
    ·have e9 : zo (rdL (j + 1) 15 b1 e1).1 = zo (rdL j 15 b1 e1).1 ++ [.int .i64 x] := by
      show zo ((rdL j 15 b1 e1).1 ++ [_]) = _
      rw [zW, Hx.out]
      rfl
     rw [e9]
     exact Hown4.out
    ·exact Hi3.out.far tg (fun k hk e => by have := (Ho3.out.lt k e).1; omega)
    ·exact Ht3.out.trans tg (fun _ e => e) (fun k hk e => by have := (Ho3.out.lt k e).1; omega) (r := fun k => k = g)
   case measure => simp [intOf]; omega
  ·obtain rfl : j = n := by omega
   have j1 : ¬ (j : Int) < (j : Int) := by omega
   have Ho := ihq ho; have Hi := ihq hi; have Ht := ihq ht
   clear ho hi ht
   go_wp2
   go_ret
   unfold Yx
   rw [Hdef.out, YF]
   exact ⟨A', c', rfl, Ho.out, Hi.out, Ht.out⟩
end Go.Proofs.YteebkolccbcehaaGreat
end

section
set_option linter.all false
namespace Go.Proofs.YteebkolccbcehaaGreat
open Go.ChangeShapes Go.WideShapes Go.ChangeAt Go.RowKit
def zH : Int := 137438953472
def rdCk (vo last : Int) (bs : List UInt8) (e : Nat) : Chk × List UInt8 × Nat :=
 let d := zM bs e zH
 let ep := zM d.2.1 d.2.2 zH
 let ms := xn ep.2.1 ep.2.2
 let js := xn ms.2.1 ms.2.2
 (⟨last + (d.1 : Int), vo, (ep.1 : Int), ms.1, js.1⟩, js.2.1, js.2.2)
def yO (vo : Int) : Nat -> List UInt8 -> Nat -> List Chk × List UInt8 × Nat
 | 0, bs, e => ([], bs, e)
 | k + 1, bs, e =>
  let q := yO vo k bs e
  let c := rdCk vo (yT 0 q.1) q.2.1 q.2.2
  (q.1 ++ [c.1], c.2.1, c.2.2)
structure RdP where
 p : Pol
 bs : List UInt8
 e : Nat
def yx (bs : List UInt8) (e : Nat) : RdP :=
 let a := rdM bs e
 let b := rdM a.2.1 a.2.2
 let c := rdM b.2.1 b.2.2
 let d := rdM c.2.1 c.2.2
 ⟨⟨(a.1 : Int), (b.1 : Int), (c.1 : Int), (d.1 : Int)⟩, d.2.1, d.2.2⟩
def xH (vo : Int) (bs : List UInt8) (e : Nat) : Vol × List UInt8 × Nat :=
 let b := zM bs e 512
 let p := yx b.2.1 b.2.2
 let v := zM p.bs p.e zH
 let c := yO vo (zx (b.1 : Int)).toNat v.2.1 v.2.2
 (⟨(b.1 : Int), p.p, (v.1 : Int), c.1⟩, c.2.1, c.2.2)
theorem YY (vo : Int) : ∀ (k : Nat) (bs : List UInt8) (e : Nat), (yO vo k bs e).1.length = k
 | 0, _, _ => rfl
 | k + 1, bs, e => by simp [yO, YY vo k bs e]
theorem YG (vo : Int) : ∀ (k : Nat) (bs : List UInt8) (e : Nat), 0 <= yT 0 (yO vo k bs e).1 /\ yT 0 (yO vo k bs e).1 <= k * zH
 | 0, _, _ => by simp [yO, yT]
 | k + 1, bs, e => by
  obtain ⟨h1, h2⟩ := YG vo k bs e
  have h3 := yD (bs := (yO vo k bs e).2.1) (e := (yO vo k bs e).2.2) (most := zH) (by unfold zH; omega)
  have e1 : yT 0 (yO vo (k + 1) bs e).1 = yT 0 (yO vo k bs e).1 + ((zM (yO vo k bs e).2.1 (yO vo k bs e).2.2 zH).1 : Int) := by
   show yT 0 ((yO vo k bs e).1 ++ [_]) = _
   rw [ZW]
   rfl
  rw [e1]
  unfold zH at *
  omega
theorem QH {vo : Int} (hv : 0 <= vo /\ vo <= 63) : ∀ (k : Nat) (hk : k <= 64) (bs : List UInt8) (e : Nat), ∀ c ∈ (yO vo k bs e).1, Z4 c /\ c.vo = vo /\ c.ms.length <= 4 /\ c.js.length <= 4
 | 0, _, _, _, c, hc => by cases hc
 | k + 1, hk, bs, e, c, hc => by
  rcases List.mem_append.1 (show c ∈ (yO vo k bs e).1 ++ _ from hc) with hc | hc
  ·exact QH hv k (by omega) bs e c hc
  ·rw [List.mem_singleton] at hc
   subst hc
   obtain ⟨h1, h2⟩ := YG vo k bs e
   have h3 := yD (bs := (yO vo k bs e).2.1) (e := (yO vo k bs e).2.2) (most := zH) (by unfold zH; omega)
   obtain ⟨q, q1, q2, hq⟩ : ∃ q q1 q2, yO vo k bs e = (q, q1, q2) := ⟨_, _, _, rfl⟩
   rw [hq] at h1 h2 h3 ⊢
   simp only at h1 h2 h3 ⊢
   have h4 := yD (bs := (zM q1 q2 zH).2.1) (e := (zM q1 q2 zH).2.2) (most := zH) (by unfold zH; omega)
   unfold rdCk
   simp only
   obtain ⟨m1, m2⟩ := QF (zM (zM q1 q2 zH).2.1 (zM q1 q2 zH).2.2 zH).2.1 (zM (zM q1 q2 zH).2.1 (zM q1 q2 zH).2.2 zH).2.2
   obtain ⟨j1, j2⟩ := QF (xn (zM (zM q1 q2 zH).2.1 (zM q1 q2 zH).2.2 zH).2.1 (zM (zM q1 q2 zH).2.1 (zM q1 q2 zH).2.2 zH).2.2).2.1 (xn (zM (zM q1 q2 zH).2.1 (zM q1 q2 zH).2.2 zH).2.1 (zM (zM q1 q2 zH).2.1 (zM q1 q2 zH).2.2 zH).2.2).2.2
   unfold zH at *
   exact ⟨⟨by simp only; omega, hv, by simp only; omega, by simp only; omega, by simp only; omega, m1, j1⟩, trivial, m2, j2⟩
theorem XD {b : Int} (h0 : 0 <= b) (h1 : b <= 512) : ((zx b).toNat : Int) = zx b /\ (zx b).toNat <= 64 := by
 unfold zx
 omega
theorem Yb (bs : List UInt8) (e : Nat) : In64 ((rdM bs e).1 : Int) := by
 have := rdM_most bs e
 unfold In64
 omega
theorem rdVol_fit {vo : Int} (hv : 0 <= vo /\ vo <= 63) (bs : List UInt8) (e : Nat) : Xo (xH vo bs e).1 /\ (∀ k ∈ (xH vo bs e).1.ks, k.vo = vo /\ k.ms.length <= 4 /\ k.js.length <= 4) /\ ((xH vo bs e).1.ks.length : Int) = zx (xH vo bs e).1.bl := by
 have h1 := yD (bs := bs) (e := e) (most := 512) (by omega)
 obtain ⟨b, b1, b2, hb⟩ : ∃ b b1 b2, zM bs e 512 = (b, b1, b2) := ⟨_, _, _, rfl⟩
 rw [hb] at h1
 simp only at h1
 obtain ⟨c1, c2⟩ := XD (b := (b : Int)) (by omega) h1
 unfold xH
 rw [hb]
 simp only
 have h3 := yD (bs := (yx b1 b2).bs) (e := (yx b1 b2).e) (most := zH) (by unfold zH; omega)
 have hl := YY vo (zx (b : Int)).toNat (zM (yx b1 b2).bs (yx b1 b2).e zH).2.1 (zM (yx b1 b2).bs (yx b1 b2).e zH).2.2
 have hc := QH hv (zx (b : Int)).toNat c2 (zM (yx b1 b2).bs (yx b1 b2).e zH).2.1 (zM (yx b1 b2).bs (yx b1 b2).e zH).2.2
 refine ⟨⟨by simp only; omega, ?_, ?_, by simp only; omega, fun k hk => (hc k hk).1⟩, fun k hk => (hc k hk).2, by rw [hl]; exact c1⟩
 ·unfold yx
  exact ⟨Yb _ _, Yb _ _, Yb _ _, Yb _ _⟩
 ·unfold zH at h3
  simp only
  unfold zH
  omega
theorem QB {w : World} {g : Nat} {cs : Array Value} {T : TypeId} (h : w.heap[g]? = some (.cells cs T (0, 0))) (hs : cs.size = 7) (b re we li bu ver : Int) (S : Sl) :
  ∃ w', (stVol (.pointer (some ⟨g, 0, none⟩)) (.agg #[.int .i64 b, .int .i64 re, .int .i64 we, .int .i64 li, .int .i64 bu, .int .i64 ver, .slice S.A S.n S.c])).run Tryz.prog w = .ok () w' /\
   w'.heap[g]? = some (.cells #[.int .i64 b, .int .i64 re, .int .i64 we, .int .i64 li, .int .i64 bu, .int .i64 ver, .slice S.A S.n S.c] T (0, 0)) /\ Turned (fun k => k = g) w w' :=
 ZH (T := 54) h (by rw [hs]; rfl) Z9 (by simp [Value.oneCell'])
theorem volb_new (w : World) (b re we li bu ver : Int) (S : Sl) : ∃ wz w3, w.alloc (.cells #[.int .i64 0, .int .i64 0, .int .i64 0, .int .i64 0, .int .i64 0, .int .i64 0, .slice none 0 0] 54) = wz /\
  (stVol (.pointer (some ⟨w.heap.size, 0, none⟩)) (.agg #[.int .i64 b, .int .i64 re, .int .i64 we, .int .i64 li, .int .i64 bu, .int .i64 ver, .slice S.A S.n S.c])).run Tryz.prog wz = .ok () w3 /\ Below w.heap.size w w3 /\
  w3.heap[w.heap.size]? = some (.cells #[.int .i64 b, .int .i64 re, .int .i64 we, .int .i64 li, .int .i64 bu, .int .i64 ver, .slice S.A S.n S.c] 54 (0, 0)) := by
 obtain ⟨wz, hw⟩ : ∃ wz, w.alloc (.cells #[.int .i64 0, .int .i64 0, .int .i64 0, .int .i64 0, .int .i64 0, .int .i64 0, .slice none 0 0] 54) = wz := ⟨_, rfl⟩
 have hb : Below w.heap.size w wz := by rw [<- hw]; exact zg _ _
 have hr : wz.heap[w.heap.size]? = some (.cells #[.int .i64 0, .int .i64 0, .int .i64 0, .int .i64 0, .int .i64 0, .int .i64 0, .slice none 0 0] 54 (0, 0)) := by rw [<- hw]; exact heap_alloc_new _ _
 obtain ⟨w3, h1, h2, h3⟩ := QB hr rfl b re we li bu ver S
 exact ⟨wz, w3, hw, h1, hb.trans (h3.below (fun k e => by omega) hb.size), h2⟩
def ldVol (p : Value) : Sem Value := Instr.loadAt 54 p
theorem ldVol_eq (p : Value) : Instr.loadAt 54 p = ldVol p := rfl
theorem ldVol_run {w : World} {g : Nat} {b re we li bu ver : Int} {S : Sl} {T : TypeId} (h : w.heap[g]? = some (.cells #[.int .i64 b, .int .i64 re, .int .i64 we, .int .i64 li, .int .i64 bu, .int .i64 ver, .slice S.A S.n S.c] T (0, 0))) :
  (ldVol (.pointer (some ⟨g, 0, none⟩))).run Tryz.prog w = .ok (.agg #[.int .i64 b, .int .i64 re, .int .i64 we, .int .i64 li, .int .i64 bu, .int .i64 ver, .slice S.A S.n S.c]) w := by
 have hr : w.rangeAt g 0 [.int .i64 b, .int .i64 re, .int .i64 we, .int .i64 li, .int .i64 bu, .int .i64 ver, .slice S.A S.n S.c] := fun j v hv => by
  match j, hv with
  | 0, hv => simp at hv; subst hv; exact zc h 0
  | 1, hv => simp at hv; subst hv; exact zc h 1
  | 2, hv => simp at hv; subst hv; exact zc h 2
  | 3, hv => simp at hv; subst hv; exact zc h 3
  | 4, hv => simp at hv; subst hv; exact zc h 4
  | 5, hv => simp at hv; subst hv; exact zc h 5
  | 6, hv => simp at hv; subst hv; exact zc h 6
 exact run_loadAt_mid w g 0 54 [.int .i64 b, .int .i64 re, .int .i64 we, .int .i64 li, .int .i64 bu, .int .i64 ver, .slice S.A S.n S.c] _ hr Tryz.underlying54 rfl Z9
theorem bdCk5_run (w : World) (id vo ep : Int) (A1 A2 : Option Addr) (n1 c1 n2 c2 : Nat) :
  (bdCk #[(0, .int .i64 id), (1, .int .i64 vo), (2, .int .i64 ep), (3, .slice A1 n1 c1), (4, .slice A2 n2 c2)]).run Tryz.prog w = .ok (.agg #[.int .i64 id, .int .i64 vo, .int .i64 ep, .slice A1 n1 c1, .slice A2 n2 c2]) w := by kernel_rfl
end Go.Proofs.YteebkolccbcehaaGreat
end
