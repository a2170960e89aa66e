/- For any bytes b, any int at and any byte turn, CrcOther returns true: bytes in which one is another one have another sum, and an empty list before or behind changes no sum; no bytes, more than 1000, or a turn of 0 ask the document's example alone. Conditions: none. -/
import Derived.Test.YtilgkhenjhpcaaaRows
import Derived.Test.YtilgkhenjhpcaaaLaw
import Derived.Test.YtilgkhenjhpcaaaCrcF
namespace Go.Proofs.Ytilgkhenjhpcaaa.crcOther
open Go.ChangeShapes Go.WideShapes Go.ChangeAt Go.RowKit
set_option linter.unusedVariables false

theorem crc_other {bs : List UInt8} {K : Nat} (hK : K < bs.length) (z : UInt8) (hz : z ≠ bs[K]) : crcOf (bs.set K z) ≠ crcOf bs := by
  intro h
  have l1 := feed_lt (bs.set K z) (r := 4294967295) (by omega)
  have l2 := feed_lt bs (r := 4294967295) (by omega)
  have h' : feed 4294967295 (bs.set K z) = feed 4294967295 bs := by unfold crcOf at h; omega
  have e := feed_near (k := K) (by omega) (by simp) (fun j hj => by rw [List.getElem?_set, if_neg (by omega)]) h'
  have e2 : (bs.set K z)[K]? = bs[K]? := by rw [e]
  rw [List.getElem?_set_self hK, List.getElem?_eq_getElem hK] at e2
  injection e2 with e2
  exact hz e2

theorem new_one (W : World) (v : Value) (t : TypeId) {m : Nat} (h : W.heap.size = m) : (W.alloc (.cells #[v] t)).cell? ⟨m, 0, none⟩ = some v := by
  subst h
  exact cell_of_row _ _ 0 _ _ (0, 0) (heap_alloc_new W _)
theorem new_two (W : World) (u v : Value) (t : TypeId) : (W.alloc (.cells #[u, v] t)).cell? ⟨W.heap.size, 0, none⟩ = some u ∧ (W.alloc (.cells #[u, v] t)).cell? ⟨W.heap.size, 1, none⟩ = some v :=
  ⟨cell_of_row _ _ 0 _ _ (0, 0) (heap_alloc_new W _), cell_of_row _ _ 1 _ _ (0, 0) (heap_alloc_new W _)⟩
theorem walk_awake (A : Option Addr) (n c : Nat) (a t : Int) (w : World) (h : n < 1 ∨ 1000 < n ∨ t = 0) (hm : n ≤ maxLen) :
    Calls Try.prog 6 #[.slice A n c, .int .i64 a, .int .u8 t] w fun e w' => e = .returned (.bool true) ∧ Below w.heap.size w w' := by
  by_cases h0 : n < 1
  · have d0 : decide ((n : Int) < 1) = true := by simp; omega
    go_enter Try.func6, Try.ntmps6
    go_wp2_with (go_at_call 7; refine (awake_any _).mono ?_; rintro e w' ⟨rfl, hb⟩)
    go_ret
    exact ⟨rfl, hb⟩
  · by_cases h1 : 1000 < n
    · have d0 : decide ((n : Int) < 1) = false := by simp; omega
      have d1 : decide ((1000 : Int) < (n : Int)) = true := by simp; omega
      go_enter Try.func6, Try.ntmps6
      go_wp2_with (go_at_call 7; refine (awake_any _).mono ?_; rintro e w' ⟨rfl, hb⟩)
      go_ret
      exact ⟨rfl, hb⟩
    · obtain rfl : t = 0 := by omega
      have d0 : decide ((n : Int) < 1) = false := by simp; omega
      have d1 : decide ((1000 : Int) < (n : Int)) = false := by simp; omega
      go_enter Try.func6, Try.ntmps6
      go_wp2_with (go_at_call 7; refine (awake_any _).mono ?_; rintro e w' ⟨rfl, hb⟩)
      go_ret
      exact ⟨rfl, hb⟩

theorem walk_main (A : Option Addr) (n c t : Nat) (a : Int) (bs : List UInt8) (w : World) (hn : bs.length = n) (hnc : n ≤ c) (hcm : c ≤ maxLen) (h : Seen w A (bytesV bs)) (h1 : n ≤ 1000) (hn0 : 1 ≤ n) (ht0 : 0 < t) (ht : t < 256) (ha1 : -9223372036854775808 ≤ a) (ha2 : a ≤ 9223372036854775807) :
    Calls Try.prog 6 #[.slice A n c, .int .i64 a, .int .u8 (t : Int)] w fun e w' => e = .returned (.bool true) ∧ Below w.heap.size w w' := by
  have Hh := Lib.hid h; clear h
  have e1 := Int.emod_nonneg a (show (n : Int) ≠ 0 by omega)
  have e2 := Int.emod_lt_of_pos a (show 0 < (n : Int) by omega)
  obtain ⟨K, hK⟩ : ∃ K : Nat, a % (n : Int) = K := ⟨(a % (n : Int)).toNat, by omega⟩
  have hKl : K < n := by omega
  have HK := Lib.hid hK
  clear hK e1 e2
  subst hn
  have ht1 : ((t : Int) == 0) = false := by simp; omega
  have d0 : decide ((bs.length : Int) < 1) = false := by simp; omega
  have d1 : decide ((1000 : Int) < (bs.length : Int)) = false := by simp; omega
  have hown0 : (w.alloc (.cells #[] 5)).ownsRow w.heap.size 5 1 (.slice (some ⟨w.heap.size, 0, none⟩) 0 0) 0 [] := World.ownsRow_lit w #[] 0 (Nat.le_refl _) (by unfold maxLen; omega) rfl
  have hb0 : Below w.heap.size w (w.alloc (.cells #[] 5)) := (Below.refl _ _).alloc (Nat.le_refl _) _
  go_enter Try.func6, Try.ntmps6
  go_wp2_with (first | (go_at_call 8; refine (Pick_any a _ _ ha1 ha2 (by omega) (by omega)).mono ?_; rintro e w' ⟨rfl, rfl⟩; rw [HK.out]) | (at_builtin; refine wpList_app rfl (.tmp 26) (.tmp 27) _ rfl 5 _ 1 Try.underlying22 u8_info rfl w.heap.size _ 0 0 [] rfl hown0 A bs.length c (bytesV bs) rfl (bytes_length bs) (Hh.out.below hb0) (bytes_one bs) (by unfold maxLen; omega) (by omega) hb0.size ?_; intro A2 c2 w2 hown2 hb2; simp only [Nat.zero_add, List.nil_append] at hown2; simp only [Nat.zero_add]))
  obtain ⟨g, cc, hf, hg1, hg2⟩ := hown2.form (by omega)
  injection hf with hf1 _ hf2
  subst hf1
  subst hf2
  have Hb2 := Lib.hid (hb0.trans hb2)
  have Hown := Lib.hid hown2
  have hcell : w2.cell? ⟨g, K, none⟩ = some (byteV bs[K]) := by rw [hown2.cellAt K (by omega)]; simp [bytesV, List.getElem?_eq_getElem hKl]
  have hfz := hown2.frozenAt K
  have hother := fun z hz => crc_other hKl z hz
  clear hown2 hb0 hb2 hown0
  generalize bs[K] = y at hcell hother
  have Hother := Lib.hid hother; clear hother
  unfold byteV at hcell
  have hz : bits .xor .u8 ((y.toNat : Nat) : Int) (t : Int) = (((UInt8.ofNat (y.toNat ^^^ t)).toNat : Nat) : Int) := by
    have hl : y.toNat ^^^ t < 256 := Nat.xor_lt_two_pow (n := 8) (byte_lt y) (by omega)
    rw [u8_xor_nat _ _ (byte_lt y) (by omega), UInt8.toNat_ofNat', Nat.mod_eq_of_lt hl]
  have hzy : UInt8.ofNat (y.toNat ^^^ t) ≠ y := by
    intro e
    have hl : y.toNat ^^^ t < 256 := Nat.xor_lt_two_pow (n := 8) (byte_lt y) (by omega)
    have e1 : y.toNat ^^^ t = y.toNat := by rw [← UInt8.toNat_inj, UInt8.toNat_ofNat', Nat.mod_eq_of_lt hl] at e; exact e
    have e2 : y.toNat ^^^ (y.toNat ^^^ t) = y.toNat ^^^ y.toNat := by rw [e1]
    rw [← Nat.xor_assoc, Nat.xor_self, Nat.zero_xor] at e2
    omega
  have Hne := Lib.hid (Hother.out _ hzy)
  obtain ⟨z, hze⟩ : ∃ z, UInt8.ofNat (y.toNat ^^^ t) = z := ⟨_, rfl⟩
  rw [hze] at hz Hne
  clear hzy hze
  have b0 : (0 : Int) ≤ (K : Int) := by omega
  have b1 : (K : Int) < (bs.length : Int) := by omega
  have hst := Hown.out.stored K (byteV z)
  rw [show (bytesV bs).set K (byteV z) = bytesV (bs.set K z) by simp [bytesV, List.map_set]] at hst
  have Hst := Lib.hid hst.1
  have Hb3 := Lib.hid (Hb2.out.setCell (p := ⟨g, K, none⟩) hg1 (byteV z))
  clear hst
  have hq : (((crcOf (bs.set K z) : Nat) : Int) != ((crcOf bs : Nat) : Int)) = true := by
    have := Hne.out
    simp
    omega
  obtain ⟨q1, hq1⟩ : ∃ q, crcOf (bs.set K z) = q := ⟨_, rfl⟩
  obtain ⟨q2, hq2⟩ : ∃ q, crcOf bs = q := ⟨_, rfl⟩
  rw [hq1, hq2] at hq
  have Hq1 := Lib.hid hq1
  have Hq2 := Lib.hid hq2
  clear hq1 hq2
  go_wp2_with fail
  refine (Sum_one (some ⟨g, 0, none⟩) bs.length c2 1 (bs.set K z) _ _ (by simp) (new_one _ _ _ (by simp)) ((Seen.of_own Hst.out).alloc _) (by omega)).mono ?_
  rintro e w4 ⟨rfl, hb4⟩
  have HA := Lib.hid ((Hb3.out.alloc Hb3.out.size (.cells #[.slice (some ⟨g, 0, none⟩) bs.length c2] 22)).trans (hb4.mono (Hb3.out.alloc Hb3.out.size _).size))
  clear hb4
  rw [Hq1.out]
  go_wp2_with fail
  refine (Sum_one A bs.length c 1 bs _ _ rfl (new_one _ _ _ rfl) ((Hh.out.below HA.out).alloc _) (by omega)).mono ?_
  rintro e w5 ⟨rfl, hb5⟩
  have HB := Lib.hid ((HA.out.alloc HA.out.size (.cells #[.slice A bs.length c] 22)).trans (hb5.mono (HA.out.alloc HA.out.size _).size))
  clear hb5
  rw [Hq2.out]
  go_wp2_with fail
  refine (Sum_two A none bs.length c 0 0 2 bs [] _ _ q2 (by rw [List.append_nil]; exact Hq2.out) rfl rfl (new_two _ _ _ _).1 (new_two _ _ _ _).2 ((Hh.out.below HB.out).alloc _) (Seen.nil _ _) (by omega) (by omega)).mono ?_
  rintro e w6 ⟨rfl, hb6⟩
  have HC := Lib.hid ((HB.out.alloc HB.out.size (.cells #[.slice A bs.length c, .slice none 0 0] 22)).trans (hb6.mono (HB.out.alloc HB.out.size _).size))
  clear hb6
  go_wp2_with fail
  refine (Sum_two none A 0 0 bs.length c 2 [] bs _ _ q2 Hq2.out rfl rfl (new_two _ _ _ _).1 (new_two _ _ _ _).2 (Seen.nil _ _) ((Hh.out.below HC.out).alloc _) (by omega) (by omega)).mono ?_
  rintro e w7 ⟨rfl, hb7⟩
  have HD := Lib.hid ((HC.out.alloc HC.out.size (.cells #[.slice none 0 0, .slice A bs.length c] 22)).trans (hb7.mono (HC.out.alloc HC.out.size _).size))
  clear hb7
  go_wp2_with (go_at_call 7; refine (awake_any _).mono ?_; rintro e w8 ⟨rfl, hb8⟩)
  go_ret
  exact ⟨rfl, HD.out.trans (hb8.mono HD.out.size)⟩

theorem walk (A : Option Addr) (n c : Nat) (bs : List UInt8) (a t : Int) (w : World) (hn : bs.length = n) (hnc : n ≤ c) (hcm : c ≤ maxLen) (h : Seen w A (bytesV bs)) (ha : (Lit.int .i64 a).wf = true) (ht : (Lit.int .u8 t).wf = true) :
    Calls Try.prog 6 #[.slice A n c, .int .i64 a, .int .u8 t] w fun e w' => e = .returned (.bool true) ∧ Below w.heap.size w w' := by
  have hb := bounds_i64 ha
  have hu := bounds_u8 ht
  by_cases h1 : n < 1 ∨ 1000 < n ∨ t = 0
  · exact walk_awake A n c a t w h1 (by omega)
  · obtain ⟨u, rfl⟩ : ∃ u : Nat, t = u := ⟨t.toNat, by omega⟩
    exact walk_main A n c u a bs w hn hnc hcm h (by omega) (by omega) (by omega) (by omega) hb.1 hb.2

/-! ### THE ROW -/
theorem own : ownKnob Try.prog.godebug = none := by kernel_rfl

set_option maxRecDepth 100000 in
theorem lifted (os : Os) (started : os.Started) (H : Type) (enc : TypeId × Value → H) :
    ReturnsInHanded {} Try.checked os 6 .any (Rows.crcOtherSpec.pre6 enc Try.prog Try.f6 Rows.crcOtherRow.domain false) (Rows.crcOtherSpec.post enc Try.prog Try.f6 false true false false) := by
  refine returnsInHanded_of_change (C := Try.checked) own started (by kernel_rfl) Try.func6
    (ChangeSpec.witness6 (enc := enc) (C := Try.checked) false ⟨#[], #[.slice none 0 0, .int .i64 0, .int .u8 0], []⟩ 8 (by kernel_rfl) (by kernel_rfl) (by kernel_rfl) (by kernel_rfl)) ?_
  intro W base args ds gs before hval0 hW hcnd _
  have hval : ∀ (j : Nat) t v, Try.f6.params[j]? = some t → args[j]? = some v → Value.okWide Try.prog W .any base t v := hval0
  have hW' := hW
  obtain ⟨p, q, hA0, hV, rfl, hfz, hnd⟩ := hW
  have hA : DataW.TrodAll enc Try.prog W 0 (fun _ => true) true Try.f6.params.toList args.toList ds p := hA0
  rw [Try.params6] at hA hval
  obtain ⟨v0, vs0, d0, ds0, p0, q0, hargs, rfl, rfl, h0, r0⟩ := trodAll_cons hA
  obtain ⟨v1, vs1, d1, ds1, p1, q1, rfl, rfl, rfl, h1, r1⟩ := trodAll_cons r0
  obtain ⟨v2, vs2, d2, ds2, p2, q2, rfl, rfl, rfl, h2, r2⟩ := trodAll_cons r1
  obtain ⟨rfl, rfl, rfl⟩ := trodAll_nil r2
  obtain rfl : args = #[v0, v1, v2] := by cases args; simp_all
  obtain ⟨rfl, rfl⟩ := trodVars_none hV
  obtain ⟨A0, n0, c0, bs0, rfl, hn0, hnc0, hcm0, hsee0⟩ := open_bytes Try.underlying22 Try.underlying5 (by kernel_rfl) (hval 0 22 v0 rfl rfl) h0
  obtain ⟨a1, rfl, rfl, rfl, w1⟩ := open_int Try.underlying3 (hval 1 3 v1 rfl rfl) h1
  obtain ⟨a2, rfl, rfl, rfl, w2⟩ := open_int Try.underlying5 (hval 2 5 v2 rfl rfl) h2
  refine (walk A0 n0 c0 bs0 a1 a2 W hn0 hnc0 hcm0 hsee0 w1 w2).mono fun e W' ⟨he, hg⟩ => ?_
  subst he
  exact ⟨_, rfl, law_post hW' rfl (by kernel_rfl) (by kernel_rfl) (by kernel_rfl) Try.underlying4 rfl rfl rfl hg⟩

theorem over : Rows.crcOtherRow.holds Try.pinned (OpenSpec.ofChange Rows.crcOtherSpec) :=
  OpenClaim.holds_of_wide 6 Try.f6 rfl rfl rfl rfl rfl rfl rfl ⟨rfl, rfl, rfl, rfl, rfl⟩ rfl rfl rfl rfl rfl (by kernel_rfl) Try.func6 (by kernel_rfl)
    (of_decide_eq_true (by kernel_rfl)) (by unfold Func.isWrapper; first | (rw [if_pos (by decide +kernel)]; kernel_rfl) | (rw [if_neg (by decide +kernel)]; exact ⟨rfl, rfl⟩))
    (fun os started H enc _ => lifted os started H enc)

theorem proved : Rows.CrcOtherSaid :=
  over
#print axioms proved

end Go.Proofs.Ytilgkhenjhpcaaa.crcOther
