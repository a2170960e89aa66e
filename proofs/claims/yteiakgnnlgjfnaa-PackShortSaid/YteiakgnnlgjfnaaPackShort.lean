/- For any slice of fields l and any int cut, PackShort returns true: a front of what was written, but all of it, isn't read to its end as all was: it is short; no field, more than 10 of them, or one of more than 30 bytes, ask the document's example alone. Conditions: none. -/
import Derived.Test.YteiakgnnlgjfnaaRows
import Derived.Test.YteiakgnnlgjfnaaLaw
import Derived.Test.YteiakgnnlgjfnaaPackL
namespace Go.Proofs.Yteiakgnnlgjfnaa.packShort
open Go.ChangeShapes Go.WideShapes Go.ChangeAt Go.RowKit
set_option linter.unusedVariables false

/-- a Reader over a front of the fields that are to come, but all of them; or its error is ErrShort -/
def Short (fs : List Fld) (l : List UInt8) (e : Nat) : Prop := e = 2 ∨ (e = 0 ∧ ∃ L, L < (encL fs).length ∧ l = (encL fs).take L)
theorem short_end {l : List UInt8} {e : Nat} (h : Short [] l e) : e = 2 := by
  rcases h with h | ⟨_, L, h, _⟩
  · exact h
  · simp [encL] at h
theorem rdNum_two (l : List UInt8) (most : Int) : rdNum l 2 most = (0, l, 2) := by unfold rdNum; rw [if_pos (by omega)]
theorem rdText_two (l : List UInt8) (most : Int) : (rdText l 2 most).2.2 = 2 := by
  unfold rdText
  rw [rdNum_two]
  simp
theorem rdNum_short {m j : Nat} (h : m < 9223372036854775808) (hj : j < (numB m).length) (most : Int) : rdNum ((numB m).take j) 0 most = (0, (numB m).take j, 2) := by
  unfold rdNum
  rw [numR_front h hj]
  simp
theorem short_num {f : Fld} {fs : List Fld} {l : List UInt8} {e : Nat} (hf : f.t = false) (h2 : f.n ≤ 9223372036854775807) (h : Short (f :: fs) l e) : Short fs (rdNum l e 9223372036854775807).2.1 (rdNum l e 9223372036854775807).2.2 := by
  rcases h with rfl | ⟨rfl, L, hL, rfl⟩
  · exact .inl (by rw [rdNum_two])
  · rw [encL_cons, encF_num hf] at hL ⊢
    by_cases hx : L < (numB f.n.toNat).length
    · rw [List.take_append_of_le_length (by omega), rdNum_short (by omega) hx]
      exact .inl rfl
    · rw [List.take_append, List.take_of_length_le (by omega), rd_num (by omega) (by omega)]
      rw [List.length_append] at hL
      exact .inr ⟨rfl, _, by omega, rfl⟩
theorem short_text {f : Fld} {fs : List Fld} {l : List UInt8} {e : Nat} (hf : f.t = true) (h1 : f.bs.length = f.m) (h2 : f.m ≤ 30) (h : Short (f :: fs) l e) : Short fs (rdText l e 30).2.1 (rdText l e 30).2.2 := by
  rcases h with rfl | ⟨rfl, L, hL, rfl⟩
  · exact .inl (rdText_two _ _)
  · rw [encL_cons, encF_text hf] at hL ⊢
    by_cases hx : L < (numB f.m).length
    · rw [List.append_assoc, List.take_append_of_le_length (by omega)]
      refine .inl ?_
      unfold rdText
      rw [rdNum_short (by omega) hx]
      simp
    · by_cases hy : L < (numB f.m).length + f.bs.length
      · refine .inl ?_
        rw [List.append_assoc, List.take_append, List.take_of_length_le (by omega), List.take_append_of_le_length (by omega)]
        unfold rdText
        rw [rd_num (by omega) (by omega)]
        simp only
        rw [if_pos (by rw [List.length_take]; omega)]
      · rw [List.take_append, List.take_of_length_le (by rw [List.length_append]; omega), rd_text h1 (by omega) (by omega)]
        rw [List.length_append, List.length_append] at hL
        exact .inr ⟨rfl, _, by rw [List.length_append]; omega, rfl⟩
theorem encL_pos {fs : List Fld} (h : 0 < fs.length) : 0 < (encL fs).length := by
  match fs, h with
  | f :: fs, _ =>
    rw [encL_cons, List.length_append]
    unfold encF
    split
    · have := numB_ne f.m
      rw [List.length_append]; omega
    · have := numB_ne f.n.toNat
      omega

theorem walk_awake (A : Option Addr) (n c : Nat) (a : Int) (w : World) (h : n < 1 ∨ 10 < n) (hm : n ≤ maxLen) :
    Calls Try.prog 6 #[.slice A n c, .int .i64 a] w fun e w' => e = .returned (.bool true) ∧ Below w.heap.size w w' := by
  unfold maxLen at hm
  by_cases h1 : n < 1
  · obtain rfl : n = 0 := by omega
    go_enter Try.func6, Try.ntmps6
    go_wp2_with (go_at_call 7; refine (awake_any _).mono ?_; rintro e w' ⟨rfl, hb⟩)
    go_ret
    exact ⟨rfl, hb⟩
  · have h10 : 10 < n := by omega
    go_enter Try.func6, Try.ntmps6
    go_wp2_with (go_at_call 7; refine (awake_any _).mono ?_; rintro e w' ⟨rfl, hb⟩)
    go_ret
    exact ⟨rfl, hb⟩

/-- the first loop's relation -/
def At1 (W : World) (B : Nat) (fs : List Fld) (k : Nat) (wr : World) : Prop :=
  k ≤ fs.length ∧ (∀ f ∈ fs.take k, f.m ≤ 30) ∧ (encL (fs.take k)).length ≤ 40 * k ∧ Below B W wr ∧ ∃ r, IsW wr B B r (encL (fs.take k))

set_option maxRecDepth 100000 in
theorem walk_main (A : Option Addr) (n c : Nat) (fs : List Fld) (a : Int) (w : World) (hn : fs.length = n) (h1 : 1 ≤ n) (h10 : n ≤ 10) (h : FldsAt w A fs) (ha1 : -9223372036854775808 ≤ a) (ha2 : a ≤ 9223372036854775807) :
    Calls Try.prog 6 #[.slice A n c, .int .i64 a] w fun e w' => e = .returned (.bool true) ∧ Below w.heap.size w w' := by
  have Hh := Lib.hid h; clear h
  have Hn := Lib.hid hn; clear hn
  obtain ⟨B, hB⟩ : ∃ B, w.heap.size = B := ⟨_, rfl⟩
  have HB := Lib.hid hB
  have z0 := IsW.zero w B (by omega)
  rw [hB] at z0
  have start : At1 w B fs 0 (w.alloc (.cells #[.slice none 0 0] 26)) := ⟨Nat.zero_le _, by simp, by simp [encL], (Below.refl B w).alloc (by omega) _, none, z0⟩
  have Start := Lib.hid start
  clear z0 start
  go_enter Try.func6, Try.ntmps6
  go_wp2
  go_loopw [6] (fun i wr => ∃ k : Nat, i = .int .i64 k ∧ At1 w B fs k wr) (fun i _ => n - (intOf i).toNat)
  case atStart => exact ⟨0, rfl, Start.out⟩
  case round =>
    obtain ⟨k, rfl, hk, hsm, hel, hbw, r, hw⟩ := hrel
    have hkn : k ≤ n := by have := Hn.out; omega
    have Hsm := Lib.hid hsm; clear hsm
    have Hbw := Lib.hid hbw; clear hbw
    have Hw := Lib.hid hw; clear hw
    have hBw : B ≤ wr.heap.size := by have := Hbw.out.size; have := HB.out; omega
    by_cases hlt : k < n
    · obtain ⟨g, o, f, hA, hfk, hft, hf0⟩ := Hh.out.get (k := k) (by have := Hn.out; omega)
      obtain ⟨p1, p2, p3, p4, p5, p6, p7, p8, p9⟩ := hf0.below (Hbw.out.mono (Nat.le_of_eq HB.out))
      subst hA
      obtain ⟨ft, fn, fA, fm, fc, fbs⟩ := f
      simp only at p1 p2 p3 p4 p5 p6 p7 p8 p9
      have Hft := Lib.hid hft; clear hft hfk
      have Hf0 := Lib.hid hf0; clear hf0
      have P4 := Lib.hid p4; clear p4
      clear p7
      by_cases h30 : 30 < fm
      · go_wp2_with (go_at_call 7; refine (awake_any _).mono ?_; rintro e w' ⟨rfl, hb⟩)
        go_ret
        rw [HB.out]
        exact ⟨rfl, Hbw.out.trans (hb.mono hBw)⟩
      · have hsm2 : ∀ f ∈ fs.take (k + 1), f.m ≤ 30 := by
          rw [Hft.out]
          intro f hf
          rcases List.mem_append.1 hf with h | h
          · exact Hsm.out f h
          · rw [List.mem_singleton] at h
            subst h
            show fm ≤ 30
            omega
        have Hsm2 := Lib.hid hsm2; clear hsm2
        have hel2 : (encL (fs.take (k + 1))).length ≤ 40 * (k + 1) := by
          rw [Hft.out, encL_snoc, List.length_append]
          have := encF_len (f := ⟨ft, fn, fA, fm, fc, fbs⟩) (q := 30) P4.out (by show fm ≤ 30; omega) (by omega) p9
          omega
        cases ft with
        | true =>
          go_wp2_with fail
          refine (WText_any B B r _ fbs fA fm fc _ Hw.out (by omega) P4.out (by omega) (fun w' t => Hf0.out.2.2.2.2.2.2.1.below ((Hbw.out.trans (keep Hw.out t)).mono (Nat.le_of_eq HB.out)))).mono ?_
          rintro e w1 ⟨rfl, hg1⟩
          have Hb1 := Lib.hid (Hbw.out.trans (GrewW.below Hw.out hg1))
          obtain ⟨r1, hw1, _, _⟩ := hg1
          have Hw1 := Lib.hid hw1
          clear hw1
          go_wp2
          go_roundw
          case rel => exact ⟨k + 1, by go_num, by have := Hn.out; omega, Hsm2.out, hel2, Hb1.out, r1, by rw [Hft.out, encL_snoc, encF_text rfl]; exact Hw1.out⟩
          case measure => simp [intOf]; omega
        | false =>
          go_wp2_with fail
          refine (WNum_any B B r _ fn _ Hw.out (by omega) p8 p9).mono ?_
          rintro e w1 ⟨rfl, hg1⟩
          have Hb1 := Lib.hid (Hbw.out.trans (GrewW.below Hw.out hg1))
          obtain ⟨r1, hw1, _, _⟩ := hg1
          have Hw1 := Lib.hid hw1
          clear hw1
          go_wp2
          go_roundw
          case rel => exact ⟨k + 1, by go_num, by have := Hn.out; omega, Hsm2.out, hel2, Hb1.out, r1, by rw [Hft.out, encL_snoc, encF_num rfl]; exact Hw1.out⟩
          case measure => simp [intOf]; omega
    · have hkf : fs.take k = fs := List.take_of_length_le (by have := Hn.out; omega)
      rw [hkf] at Hw Hsm hel
      clear hkf
      have hpos := encL_pos (fs := fs) (by have := Hn.out; omega)
      obtain ⟨N, hN⟩ : ∃ N, (encL fs).length = N := ⟨_, rfl⟩
      rw [hN] at hpos hel
      have HN := Lib.hid hN; clear hN
      have e1 := Int.emod_nonneg a (show (N : Int) ≠ 0 by omega)
      have e2 := Int.emod_lt_of_pos a (show 0 < (N : Int) by omega)
      obtain ⟨K, hK⟩ : ∃ K : Nat, a % (N : Int) = K := ⟨(a % (N : Int)).toNat, by omega⟩
      have hKl : K < N := by omega
      have HK := Lib.hid hK
      clear hK e1 e2
      go_wp2_with fail
      refine (WBytes_any B B r (encL fs) _ Hw.out (by have := HN.out; omega)).mono ?_
      rintro e w1 ⟨A5, c5, rfl, hown5, hb5⟩
      rw [bytes_length, HN.out] at hown5 ⊢
      have hc5 := own_cap hown5 hpos
      have Hown5 := Lib.hid hown5
      have Hb1 := Lib.hid (Hbw.out.trans (hb5.mono hBw))
      clear hown5 hb5
      have hd : decide ((N : Int) < 1) = false := decide_eq_false (by omega)
      have b1 : (0 : Int) ≤ (K : Int) := by omega
      have b2 : (K : Int) ≤ (c5 : Int) := by omega
      go_wp2_with (go_at_call 21; refine (Pick_any a _ _ ha1 ha2 (by omega) (by omega)).mono ?_; rintro e w' ⟨rfl, rfl⟩; rw [HK.out])
      refine (Read_any A5 K c5 ((encL fs).take K) _ (by have := HN.out; rw [List.length_take]; omega) (by omega) (seen_take K (.of_own Hown5.out))).mono ?_
      rintro e w3 ⟨gr, rfl, hgr, hr3, hb3⟩
      have hB2 : B ≤ w1.heap.size := by have := Hb1.out.size; have := HB.out; omega
      have Hb3 := Lib.hid (Hb1.out.trans (hb3.mono hB2))
      have Hr3 := Lib.hid hr3
      have Hgr : B ≤ gr := by omega
      have s0 : Short fs ((encL fs).take K) 0 := .inr ⟨rfl, K, by have := HN.out; omega, rfl⟩
      have S0 := Lib.hid s0
      clear hr3 hb3 hgr s0
      go_wp2_with fail
      clear Hown5 Hb1 Hw
      go_loopw [9] (fun i wr => ∃ (j e : Nat) (l : List UInt8), i = .int .i64 j ∧ j ≤ n ∧ IsR wr gr l e ∧ Below B w wr ∧ Short (fs.drop j) l e) (fun i _ => n - (intOf i).toNat)
      case atStart => exact ⟨0, 0, _, rfl, by omega, Hr3.out, Hb3.out, S0.out⟩
      case round =>
        obtain ⟨j, e0, l0, rfl, hj, hr, hbw, hsh⟩ := hrel
        have Hr := Lib.hid hr; clear hr
        have Hbw := Lib.hid hbw; clear hbw
        have hBw : B ≤ wr.heap.size := by have := Hbw.out.size; have := HB.out; omega
        by_cases hjt : j < n
        · obtain ⟨g, o, f, hA, hfk, hft, hf0⟩ := Hh.out.get (k := j) (by have := Hn.out; omega)
          obtain ⟨p1, p2, p3, p4, p5, p6, p7, p8, p9⟩ := hf0.below (Hbw.out.mono (Nat.le_of_eq HB.out))
          have hm30 := Hsm.out f (List.mem_of_getElem? hfk)
          have hdr : fs.drop j = f :: fs.drop (j + 1) := by
            obtain ⟨h1, h2⟩ := List.getElem?_eq_some_iff.1 hfk
            rw [List.drop_eq_getElem_cons h1, h2]
          subst hA
          rw [hdr] at hsh
          obtain ⟨ft, fn, fA, fm, fc, fbs⟩ := f
          simp only at p1 p2 p3 p4 p5 p6 p7 p8 p9 hm30
          clear hft hfk hdr hf0
          cases ft with
          | true =>
            have Hst := Lib.hid (short_text (f := ⟨true, fn, fA, fm, fc, fbs⟩) rfl p4 hm30 hsh)
            clear hsh p4 p7
            go_wp2_with fail
            refine (RText_any gr e0 l0 30 _ Hr.out (by omega) (by omega)).mono ?_
            rintro e w4 ⟨A7, c7, rfl, hown7, hr7, ht7⟩
            have Hr7 := Lib.hid hr7
            have Hb7 := Lib.hid (Hbw.out.trans (ht7.below (B := B) (fun k e => by subst e; exact Hgr) hBw))
            clear hown7 hr7 ht7
            go_wp2
            go_roundw
            case rel => exact ⟨j + 1, _, _, by go_num, by omega, Hr7.out, Hb7.out, Hst.out⟩
            case measure => simp [intOf]; omega
          | false =>
            have Hst := Lib.hid (short_num (f := ⟨false, fn, fA, fm, fc, fbs⟩) rfl p9 hsh)
            clear hsh p4 p7
            go_wp2_with fail
            refine (RNum_any gr e0 l0 9223372036854775807 _ Hr.out (by omega) (by omega)).mono ?_
            rintro e w4 ⟨rfl, hr7, ht7⟩
            have Hr7 := Lib.hid hr7
            have Hb7 := Lib.hid (Hbw.out.trans (ht7.below (B := B) (fun k e => by subst e; exact Hgr) hBw))
            clear hr7 ht7
            go_wp2
            go_roundw
            case rel => exact ⟨j + 1, _, _, by go_num, by omega, Hr7.out, Hb7.out, Hst.out⟩
            case measure => simp [intOf]; omega
        · have hdr : fs.drop j = [] := List.drop_of_length_le (by have := Hn.out; omega)
          rw [hdr] at hsh
          clear hdr
          have he2 := short_end hsh
          subst he2
          clear hsh
          go_wp2_with fail
          refine (Err_any gr 2 l0 _ Hr.out).mono ?_
          rintro e w4 ⟨rfl, rfl⟩
          go_wp2_with fail
          refine (End_any gr 2 l0 _ Hr.out).mono ?_
          rintro e w4 ⟨rfl, rfl⟩
          rw [show endOf l0 2 = 2 by unfold endOf; rw [if_neg (by omega)]]
          go_wp2_with fail
          refine (awake_any _).mono ?_
          rintro e w7 ⟨rfl, hb7⟩
          have Hb7 := Lib.hid (Hbw.out.trans (hb7.mono hBw))
          clear hb7
          go_wp2
          go_ret
          rw [HB.out]
          exact ⟨rfl, Hb7.out⟩

theorem walk (A : Option Addr) (n c : Nat) (fs : List Fld) (a : Int) (w : World) (hn : fs.length = n) (hnc : n ≤ c) (hcm : c ≤ maxLen) (h : FldsAt w A fs) (ha : (Lit.int .i64 a).wf = true) :
    Calls Try.prog 6 #[.slice A n c, .int .i64 a] w fun e w' => e = .returned (.bool true) ∧ Below w.heap.size w w' := by
  have hb := bounds_i64 ha
  by_cases h1 : n < 1 ∨ 10 < n
  · exact walk_awake A n c a w h1 (by omega)
  · exact walk_main A n c fs a w hn (by omega) (by omega) h hb.1 hb.2

/-! ### THE ROW -/
theorem own : ownKnob Try.prog.godebug = none := by kernel_rfl

set_option maxRecDepth 100000 in
theorem lifted (os : Os) (started : os.Started) (H : Type) (enc : TypeId × Value → H) :
    ReturnsInHanded {} Try.checked os 6 .any (Rows.packShortSpec.pre6 enc Try.prog Try.f6 Rows.packShortRow.domain false) (Rows.packShortSpec.post enc Try.prog Try.f6 false true false false) := by
  refine returnsInHanded_of_change (C := Try.checked) own started (by kernel_rfl) Try.func6
    (ChangeSpec.witness6 (enc := enc) (C := Try.checked) false ⟨#[], #[.slice none 0 0, .int .i64 0], []⟩ 8 (by kernel_rfl) (by kernel_rfl) (by kernel_rfl) (by kernel_rfl)) ?_
  intro W base args ds gs before hval0 hW hcnd _
  have hval : ∀ (j : Nat) t v, Try.f6.params[j]? = some t → args[j]? = some v → Value.okWide Try.prog W .any base t v := hval0
  have hW' := hW
  obtain ⟨p, q, hA0, hV, rfl, hfz, hnd⟩ := hW
  have hA : DataW.TrodAll enc Try.prog W 0 (fun _ => true) true Try.f6.params.toList args.toList ds p := hA0
  rw [Try.params6] at hA hval
  obtain ⟨v0, vs0, d0, ds0, p0, q0, hargs, rfl, rfl, h0, r0⟩ := trodAll_cons hA
  obtain ⟨v1, vs1, d1, ds1, p1, q1, rfl, rfl, rfl, h1, r1⟩ := trodAll_cons r0
  obtain ⟨rfl, rfl, rfl⟩ := trodAll_nil r1
  obtain rfl : args = #[v0, v1] := by cases args; simp_all
  obtain ⟨rfl, rfl⟩ := trodVars_none hV
  obtain ⟨A0, n0, c0, fs0, rfl, hn0, hnc0, hcm0, hf0⟩ := open_fields Try.underlying22 Try.underlying28 rfl rfl rfl rfl rfl rfl Try.underlying4 Try.underlying3 Try.underlying24 Try.underlying5 (by kernel_rfl) (by kernel_rfl) (by kernel_rfl) (by kernel_rfl) (by kernel_rfl) (hval 0 22 v0 rfl rfl) h0
  obtain ⟨a1, rfl, rfl, rfl, w1⟩ := open_int Try.underlying3 (hval 1 3 v1 rfl rfl) h1
  refine (walk A0 n0 c0 fs0 a1 W hn0 hnc0 hcm0 hf0 w1).mono fun e W' ⟨he, hg⟩ => ?_
  subst he
  exact ⟨_, rfl, law_post hW' rfl (by kernel_rfl) (by kernel_rfl) (by kernel_rfl) Try.underlying4 rfl rfl rfl hg⟩

theorem over : Rows.packShortRow.holds Try.pinned (OpenSpec.ofChange Rows.packShortSpec) :=
  OpenClaim.holds_of_wide 6 Try.f6 rfl rfl rfl rfl rfl rfl rfl ⟨rfl, rfl, rfl, rfl, rfl⟩ rfl rfl rfl rfl rfl (by kernel_rfl) Try.func6 (by kernel_rfl)
    (of_decide_eq_true (by kernel_rfl)) (by unfold Func.isWrapper; first | (rw [if_pos (by decide +kernel)]; kernel_rfl) | (rw [if_neg (by decide +kernel)]; exact ⟨rfl, rfl⟩))
    (fun os started H enc _ => lifted os started H enc)

theorem proved : Rows.PackShortSaid :=
  over
#print axioms proved

end Go.Proofs.Yteiakgnnlgjfnaa.packShort
