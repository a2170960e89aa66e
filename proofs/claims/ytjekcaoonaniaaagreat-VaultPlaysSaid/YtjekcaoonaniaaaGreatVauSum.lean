/-
  Contracts of dotterelref06's one and Sectors. Conditions: what each names.
-/
import Derived.Test.YtjekcaoonaniaaaGreatVauPs
import Derived.Test.YtjekcaoonaniaaaGreatPackF
import Derived.Deep.RegionHeld3
namespace Go.Proofs.YtjekcaoonaniaaaGreat
open Go.ChangeShapes Go.WideShapes Go.ChangeAt Go.RowKit Go.Maps
set_option linter.unusedVariables false

def oneN (n b : Nat) : Nat := (71 + (numB n).length + (numB b).length + b) / 64
theorem oneN_many {g n : Nat} (hg : g < 128) (t : List UInt8) : oneN n t.length = manyOf g n t := by
  unfold oneN manyOf secsOf
  rw [rest_length, fields_length, numB_lt hg]
  simp only [List.length_cons, List.length_nil]
  congr 1
  omega

set_option maxRecDepth 100000 in
theorem one_any (n b : Nat) (w : World) (hn : n ≤ 1000000) (hb : b ≤ 1000000) :
    Calls Tryz.prog 27 #[.int .i64 (n : Int), .int .i64 (b : Int)] w fun e w' => e = .returned (.int .i64 (oneN n b : Int)) ∧ Below w.heap.size w w' := by
  have h9 := numB_len9 (n := n) (by omega)
  have h9' := numB_len9 (n := b) (by omega)
  obtain ⟨l1, hl1⟩ : ∃ l, (numB n).length = l := ⟨_, rfl⟩
  obtain ⟨l2, hl2⟩ : ∃ l, (numB b).length = l := ⟨_, rfl⟩
  have hdef : oneN n b = (71 + l1 + l2 + b) / 64 := by unfold oneN; rw [hl1, hl2]
  obtain ⟨O, hO⟩ : ∃ O, oneN n b = O := ⟨_, rfl⟩
  rw [hO] at hdef ⊢
  rw [hl1] at h9; rw [hl2] at h9'
  have Hl1 := Lib.hid hl1; have Hl2 := Lib.hid hl2
  have Hdef := Lib.hid hdef
  clear hl1 hl2 hO hdef
  go_enter Tryz.func27, Tryz.ntmps27
  go_wp2_with fail
  refine (FNum_any n w (by omega) (by omega)).mono ?_
  rintro e w1 ⟨A1, c1, rfl, hown1, hb1⟩
  rw [show ((n : Int)).toNat = n by omega, bytes_length, Hl1.out]
  have Hb1 := Lib.hid hb1
  clear hown1 hb1
  go_wp2_with fail
  refine (FNum_any b w1 (by omega) (by omega)).mono ?_
  rintro e w2 ⟨A2, c2, rfl, hown2, hb2⟩
  rw [show ((b : Int)).toNat = b by omega, bytes_length, Hl2.out]
  have Hb2 := Lib.hid (Hb1.out.trans (hb2.mono Hb1.out.size))
  clear hown2 hb2
  go_wp2
  go_ret
  have hd := Hdef.out
  exact ⟨i64_eq (by omega), Hb2.out⟩

theorem cpTexts_get {x : Vals} {i : Nat} {q : Int × List UInt8} (h : x[i]? = some q) : (cpTexts x)[i + 1]? = some (keyText q) := by
  unfold cpTexts
  rw [List.getElem?_cons_succ, List.getElem?_map, h]
  rfl

set_option maxRecDepth 100000 in
set_option maxHeartbeats 40000000 in
theorem Sectors_any (B base : Nat) (A : Option Addr) (n c gen : Nat) (x : Vals) (w : World) (h : PairsAt w B base A n c x) (hx : GoodV x) (hn : n ≤ 10000) (hg : gen < 128) :
    Calls Tryz.prog 14 #[.slice A n c] w fun e w' => e = .returned (.int .i64 (secsUp gen 0 (cpTexts x) : Int)) ∧ Below w.heap.size w w' := by
  have H := Lib.hid h
  have Hxl := Lib.hid h.1
  have Hx := Lib.hid hx
  clear h hx
  have h9 := numB_len9 (n := n) (by omega)
  obtain ⟨l0, hl0⟩ : ∃ l, (numB n).length = l := ⟨_, rfl⟩
  rw [hl0] at h9
  have Hl0 := Lib.hid hl0
  have h16 := secsUp_small (gen := gen) (by omega) (k := 0) (fun t ht => cpTexts_small Hx.out (by rw [Hxl.out]; omega) t ht) (by rw [cpTexts_length, Hxl.out]; omega)
  rw [cpTexts_length, Hxl.out] at h16
  have hstart : oneN 0 l0 = secsUp gen 0 ((cpTexts x).take 1) := by
    have : (cpTexts x).take 1 = [numB x.length] := rfl
    rw [this, Hxl.out, ← hl0, oneN_many hg]
    simp [secsUp]
  have Hstart := Lib.hid hstart
  clear hl0 hstart
  go_enter Tryz.func14, Tryz.ntmps14
  go_wp2_with fail
  refine (FNum_any n w (by omega) (by omega)).mono ?_
  rintro e w1 ⟨A1, c1, rfl, hown1, hb1⟩
  rw [show ((n : Int)).toNat = n by omega, bytes_length, Hl0.out]
  have Hb1 := Lib.hid hb1
  clear hown1 hb1
  go_wp2_with fail
  refine (one_any 0 l0 w1 (by omega) (by omega)).mono ?_
  rw [Hstart.out]
  rintro e w2 ⟨rfl, hb2⟩
  have Hb2 := Lib.hid (Hb1.out.trans (hb2.mono Hb1.out.size))
  clear hb2
  go_wp2
  go_loopw [3, 4] (fun sv iv wr => ∃ i : Nat, i ≤ n ∧ iv = .int .i64 (i : Int) ∧ sv = .int .i64 (secsUp gen 0 ((cpTexts x).take (i + 1)) : Int) ∧ Below w.heap.size w wr) (fun _ iv _ => n - (intOf iv).toNat)
  case atStart => exact ⟨0, by omega, rfl, rfl, Hb2.out⟩
  case round =>
    obtain ⟨i, hin, rfl, rfl, hb⟩ := hrel
    have Hb := Lib.hid hb
    have hwr := hb.size
    clear hb
    by_cases hi : i < n
    · obtain ⟨g, ⟨K, A1, m1, c1⟩, ⟨K', bs⟩, rfl, hq, htk, e1, e2, e3, e4, cK, cB⟩ := H.out.get hi
      obtain rfl : K = K' := e1
      have CK := Lib.hid (show ∀ w' : World, Below w.heap.size w w' → w'.cell? ⟨g, i * 2, none⟩ = some (.int .i64 K) ∧ w'.cell? ⟨g, i * 2 + 1, none⟩ = some (.slice A1 m1 c1) from fun w' hb => ⟨by rw [hb.cell (block_lt_of_cell cK)]; exact cK, by rw [hb.cell (block_lt_of_cell cB)]; exact cB⟩)
      have Hseen := Lib.hid (show ∀ w' : World, Below w.heap.size w w' → Seen w' A1 (bytesV bs) from fun w' hb => (e4.below hb).seen)
      have hr := Hx.out.all _ (List.mem_of_getElem? hq)
      have r1 : 0 ≤ K := hr.1
      have r2 : K ≤ 1099511627776 := hr.2.1
      have hml : bs.length = m1 := e2
      have hm9 : m1 ≤ 900 := by have : bs.length ≤ 900 := hr.2.2; omega
      have hk9 := numB_len9 (n := K.toNat) (by omega)
      have ht9 := numB_len9 (n := m1) (by omega)
      obtain ⟨lk, hlk⟩ : ∃ l, (numB K.toNat).length = l := ⟨_, rfl⟩
      obtain ⟨lt, hlt⟩ : ∃ l, (numB m1 ++ bs).length = l := ⟨_, rfl⟩
      have hlt2 : lt ≤ 1000 := by rw [← hlt, List.length_append]; omega
      rw [hlk] at hk9
      obtain ⟨M, hM⟩ : ∃ M, oneN (i + 1) (lk + lt) = M := ⟨_, rfl⟩
      have hkt : (keyText (K, bs)).length = lk + lt := by
        show (numB K.toNat ++ (numB bs.length ++ bs)).length = _
        rw [hml, List.length_append, hlk, hlt]
      have hstep : secsUp gen 0 ((cpTexts x).take (i + 1 + 1)) = secsUp gen 0 ((cpTexts x).take (i + 1)) + M := by
        rw [secsUp_take (cpTexts_get hq), ← hM, ← hkt, oneN_many hg]
      have Hstep := Lib.hid hstep; have Hlk := Lib.hid hlk; have Hlt := Lib.hid hlt; have HM := Lib.hid hM; have Hml := Lib.hid hml
      obtain ⟨P, hP⟩ : ∃ P, secsUp gen 0 ((cpTexts x).take (i + 1)) = P := ⟨_, rfl⟩
      have hP2 : P + M ≤ 16 * (n + 1) := by
        have h1 := secsUp_small (gen := gen) (by omega) (k := 0) (ts := (cpTexts x).take (i + 1 + 1)) (fun t ht => cpTexts_small Hx.out (by rw [Hxl.out]; omega) t (List.mem_of_mem_take ht)) (by rw [List.length_take]; omega)
        rw [Hstep.out, hP] at h1
        have h2 : ((cpTexts x).take (i + 1 + 1)).length ≤ i + 2 := by rw [List.length_take]; exact Nat.min_le_left _ _
        omega
      rw [hP] at Hstep ⊢
      clear hq htk e2 e3 e4 cK cB hr hlk hlt hkt hstep hM hml hP
      have hcc := CK.out wr Hb.out
      have Hcr := Lib.hid (show wr.drew.cell? ⟨g, i * 2, none⟩ = some (.int .i64 K) ∧ wr.drew.cell? ⟨g, i * 2 + 1, none⟩ = some (.slice A1 m1 c1) from hcc)
      have i0 : (0 : Int) ≤ (i : Int) := by omega
      have i1 : (i : Int) < (n : Int) := by omega
      clear hcc
      have hone := fun w' => one_any (i + 1) (lk + lt) w' (by omega) (by omega)
      simp only [Int.natCast_add, Int.natCast_one] at hone
      rw [HM.out] at hone
      have Hone := Lib.hid hone
      have Hw1 := Lib.hid (wrap_in ((i : Int) + 1) (by omega) (by omega))
      have Hw2 := Lib.hid (wrap_in ((lk : Int) + (lt : Int)) (by omega) (by omega))
      clear hone
      go_wp2_with fail
      go_region_held3 (fun w' => w'.cell? ⟨g, i * 2, none⟩ = some (.int .i64 K) ∧ w'.cell? ⟨g, i * 2 + 1, none⟩ = some (.slice A1 m1 c1))
        (first | exact Hcr.out | exact Hc3.out | exact Hc4.out | exact Hc5.out)
        (first
          | (go_at_call 28; refine (FNum_any K wr.drew (by omega) (by omega)).mono ?_; rintro e w3 ⟨A3, c3, rfl, hown3, hb3⟩; rw [bytes_length, Hlk.out]; have Hb3 := Lib.hid (Hb.out.trans ((Below.refl wr.heap.size wr).drew.trans hb3 |>.mono hwr)); have Hc3 := Lib.hid (CK.out w3 Hb3.out); clear hown3 hb3)
          | (go_at_call 29; refine (FText_any A1 m1 c1 bs w3 Hml.out (by omega) (Hseen.out w3 Hb3.out)).mono ?_; rintro e w4 ⟨A4, c4, rfl, hown4, hb4⟩; rw [bytes_length, Hlt.out]; have Hb4 := Lib.hid (Hb3.out.trans (hb4.mono Hb3.out.size)); have Hc4 := Lib.hid (CK.out w4 Hb4.out); clear hown4 hb4)
          | (go_at_call 27; rw [Hw1.out, Hw2.out]; refine (Hone.out w4).mono ?_; rintro e w5 ⟨rfl, hb5⟩; have Hb5 := Lib.hid (Hb4.out.trans (hb5.mono Hb4.out.size)); have Hc5 := Lib.hid (CK.out w5 Hb5.out); clear hb5))
      all_goals
        go_wp2
        go_roundw
        case rel => exact ⟨i + 1, by omega, by go_num, by rw [Hstep.out, wrap_in _ (by omega) (by omega)]; go_num, Hb5.out⟩
        case measure => simp [intOf]; omega
    · have i1 : ¬ (i : Int) < (n : Int) := by omega
      obtain rfl : i = n := by omega
      have hty : (cpTexts x).take (i + 1) = cpTexts x := List.take_of_length_le (by rw [cpTexts_length, Hxl.out]; exact Nat.le_refl _)
      rw [hty]
      clear hty
      go_wp2
      go_ret
      exact ⟨rfl, Hb.out⟩
end Go.Proofs.YtjekcaoonaniaaaGreat
