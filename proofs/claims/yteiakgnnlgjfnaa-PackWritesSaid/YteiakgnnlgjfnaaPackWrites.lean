/- For any slice of fields l, PackWrites returns true: what is written has the bytes that the document says, and is read as it was; more than 20 fields, or one of more than 100 bytes, ask the document's example alone. Conditions: none. -/
import Derived.Test.YteiakgnnlgjfnaaRows
import Derived.Test.YteiakgnnlgjfnaaLaw
import Derived.Test.YteiakgnnlgjfnaaPackL
import Derived.Deep.RegionHeld3
namespace Go.Proofs.Yteiakgnnlgjfnaa.packWrites
open Go.ChangeShapes Go.WideShapes Go.ChangeAt Go.RowKit
set_option linter.unusedVariables false

theorem walk_long (A : Option Addr) (n c : Nat) (w : World) (h : 20 < n) (hm : n ≤ maxLen) :
    Calls Try.prog 3 #[.slice A n c] w fun e w' => e = .returned (.bool true) ∧ Below w.heap.size w w' := by
  unfold maxLen at hm
  go_enter Try.func3, Try.ntmps3
  go_wp2_with (go_at_call 7; refine (awake_any _).mono ?_; rintro e w' ⟨rfl, hb⟩)
  go_ret
  exact ⟨rfl, hb⟩

/-- the first loop's relation -/
def At1 (W : World) (B : Nat) (fs : List Fld) (k : Nat) (A : Option Addr) (n c : Nat) (wr : World) : Prop :=
  k ≤ fs.length ∧ (∀ f ∈ fs.take k, f.m ≤ 100) ∧ n ≤ 110 * k ∧ ∃ r, Both W wr B B A n c r (encL (fs.take k))

set_option maxRecDepth 100000 in
theorem walk_main (A : Option Addr) (n c : Nat) (fs : List Fld) (w : World) (hn : fs.length = n) (h20 : n ≤ 20) (h : FldsAt w A fs) :
    Calls Try.prog 3 #[.slice A n c] w fun e w' => e = .returned (.bool true) ∧ Below w.heap.size w w' := by
  have Hh := Lib.hid h; clear h
  have Hn := Lib.hid hn; clear hn
  obtain ⟨B, hB⟩ : ∃ B, w.heap.size = B := ⟨_, rfl⟩
  have HB := Lib.hid hB
  have z0 := IsW.zero w B (by omega)
  rw [hB] at z0
  have start : At1 w B fs 0 none 0 0 (w.alloc (.cells #[.slice none 0 0] 26)) := ⟨Nat.zero_le _, by simp, Nat.le_refl _, none, z0, World.ownsRow_nil _ _ _ _, rfl, (fun j e => by cases e), (Below.refl B w).alloc (by omega) _⟩
  have Start := Lib.hid start
  clear z0 start
  go_enter Try.func3, Try.ntmps3
  go_wp2
  go_loopw [4, 5] (fun s i wr => ∃ (k : Nat) (A2 : Option Addr) (n2 c2 : Nat), i = .int .i64 k ∧ s = .slice A2 n2 c2 ∧ At1 w B fs k A2 n2 c2 wr) (fun _ i _ => n - (intOf i).toNat)
  case atStart => exact ⟨0, none, 0, 0, rfl, rfl, Start.out⟩
  case round =>
    obtain ⟨k, A2, n2, c2, rfl, rfl, hk, hsm, hn2, r, hboth⟩ := hrel
    have hkn : k ≤ n := by have := Hn.out; omega
    have Hsm := Lib.hid hsm; clear hsm
    have Hboth := Lib.hid hboth; clear hboth
    by_cases hlt : k < n
    · obtain ⟨g, o, f, hA, hfk, hft, hf0⟩ := Hh.out.get (k := k) (by have := Hn.out; omega)
      obtain ⟨p1, p2, p3, p4, p5, p6, p7, p8, p9⟩ := hf0.below ((Hboth.out.below).mono (Nat.le_of_eq HB.out))
      subst hA
      obtain ⟨ft, fn, fA, fm, fc, fbs⟩ := f
      simp only at p1 p2 p3 p4 p5 p6 p7 p8 p9
      have Hft := Lib.hid hft; clear hft hfk
      have Hf0 := Lib.hid hf0; clear hf0
      have P7 := Lib.hid p7; clear p7
      have P4 := Lib.hid p4; clear p4
      by_cases h100 : 100 < fm
      · go_wp2_with (go_at_call 7; refine (awake_any _).mono ?_; rintro e w' ⟨rfl, hb⟩)
        go_ret
        rw [HB.out]
        exact ⟨rfl, Hboth.out.below.trans (hb.mono Hboth.out.size)⟩
      · have hel : (encL (fs.take k)).length ≤ 10000 := by have := Hboth.out.len; omega
        cases ft with
        | true =>
          go_wp2_with fail
          refine (WText_any B B r _ fbs fA fm fc _ Hboth.out.w (by omega) P4.out (by omega) (fun w' t => Hf0.out.2.2.2.2.2.2.1.below ((Hboth.out.keep t).mono (Nat.le_of_eq HB.out)))).mono ?_
          rintro e w1 ⟨rfl, hg1⟩
          have Hg1 := Lib.hid hg1
          have hf1 := Hf0.out.below ((Hboth.out.keep hg1.turned).mono (Nat.le_of_eq HB.out))
          have q3 := hf1.2.2.1
          have Hf1 := Lib.hid hf1
          clear hf1 hg1
          simp only at q3
          go_wp2_with fail
          refine (FText_any fA fm fc fbs _ P4.out (by omega) Hf1.out.2.2.2.2.2.2.1).mono ?_
          rintro e w2 ⟨A5, c5, rfl, hown5, hb5⟩
          have el : (bytesV (numB fm ++ fbs)).length = (numB fm).length + fm := by rw [bytes_length, List.length_append, P4.out]
          have hl9 := numB_len9 (n := fm) (by omega)
          rw [el] at hown5 ⊢
          obtain ⟨q, hq⟩ : ∃ q, (numB fm).length = q := ⟨_, rfl⟩
          rw [hq] at hown5 hl9 ⊢
          have Hq := Lib.hid hq
          have Hown5 := Lib.hid hown5
          have Hm := Lib.hid (Hboth.out.mid Hg1.out hb5)
          clear el hq hown5 hb5
          go_wp2_with (at_builtin; refine wpList_app2 rfl (.tmp 37) (.tmp 43) _ rfl 5 _ 1 Try.underlying24 u8_info rfl B A2 n2 c2 (bytesV (encL (fs.take k))) rfl Hm.out.1 A5 (q + fm) c5 (bytesV (numB fm ++ fbs)) rfl (by rw [bytes_length, List.length_append, Hq.out, P4.out]) (.of_own Hown5.out) (bytes_one _) (by unfold maxLen; omega) (by omega) Hm.out.2.2.1 ?_; intro A6 c6 w6 hown6 hg6 hr6; have Hown6 := Lib.hid hown6; have Hg6 := Lib.hid hg6; have Hr6 := Lib.hid hr6; clear hown6 hg6 hr6)
          go_roundw
          case rel =>
            obtain ⟨m1, m2, m3, r1, m4, m5⟩ := Hm.out
            refine ⟨k + 1, A6, n2 + (q + fm), c6, by go_num, rfl, by have := Hn.out; omega, ?_, by omega, r1, ?_⟩
            · rw [Hft.out]
              intro f hf
              rcases List.mem_append.1 hf with h | h
              · exact Hsm.out f h
              · rw [List.mem_singleton] at h
                subst h
                show fm ≤ 100
                omega
            · rw [Hft.out, encL_snoc, encF_text rfl]
              exact Both.done m4 m5 m1 m2 Hg6.out Hr6.out Hown6.out (by have := Hboth.out.len; rw [List.length_append, List.length_append, Hq.out, P4.out]; omega)
          case measure => simp [intOf]; omega
        | false =>
          go_wp2_with fail
          refine (WNum_any B B r _ fn _ Hboth.out.w (by omega) p8 p9).mono ?_
          rintro e w1 ⟨rfl, hg1⟩
          have Hg1 := Lib.hid hg1
          have hf1 := Hf0.out.below ((Hboth.out.keep hg1.turned).mono (Nat.le_of_eq HB.out))
          have q3 := hf1.2.1
          have Hf1 := Lib.hid hf1
          clear hf1 hg1
          simp only at q3
          go_wp2_with fail
          refine (FNum_any fn _ p8 p9).mono ?_
          rintro e w2 ⟨A5, c5, rfl, hown5, hb5⟩
          have hl9 := numB_len9 (n := fn.toNat) (by omega)
          rw [bytes_length] at hown5 ⊢
          obtain ⟨q, hq⟩ : ∃ q, (numB fn.toNat).length = q := ⟨_, rfl⟩
          rw [hq] at hown5 hl9 ⊢
          have Hq := Lib.hid hq
          have Hown5 := Lib.hid hown5
          have Hm := Lib.hid (Hboth.out.mid Hg1.out hb5)
          clear hq hown5 hb5
          go_wp2_with (at_builtin; refine wpList_app2 rfl (.tmp 51) (.tmp 57) _ rfl 5 _ 1 Try.underlying24 u8_info rfl B A2 n2 c2 (bytesV (encL (fs.take k))) rfl Hm.out.1 A5 q c5 (bytesV (numB fn.toNat)) rfl (by rw [bytes_length, Hq.out]) (.of_own Hown5.out) (bytes_one _) (by unfold maxLen; omega) (by omega) Hm.out.2.2.1 ?_; intro A6 c6 w6 hown6 hg6 hr6; have Hown6 := Lib.hid hown6; have Hg6 := Lib.hid hg6; have Hr6 := Lib.hid hr6; clear hown6 hg6 hr6)
          go_roundw
          case rel =>
            obtain ⟨m1, m2, m3, r1, m4, m5⟩ := Hm.out
            refine ⟨k + 1, A6, n2 + q, c6, by go_num, rfl, by have := Hn.out; omega, ?_, by omega, r1, ?_⟩
            · rw [Hft.out]
              intro f hf
              rcases List.mem_append.1 hf with h | h
              · exact Hsm.out f h
              · rw [List.mem_singleton] at h
                subst h
                show fm ≤ 100
                omega
            · rw [Hft.out, encL_snoc, encF_num rfl]
              exact Both.done m4 m5 m1 m2 Hg6.out Hr6.out Hown6.out (by have := Hboth.out.len; rw [List.length_append, Hq.out]; omega)
          case measure => simp [intOf]; omega
    · have hkf : fs.take k = fs := List.take_of_length_le (by have := Hn.out; omega)
      rw [hkf] at Hboth Hsm
      clear hkf
      have hel : (encL fs).length ≤ 10000 := by have := Hboth.out.len; omega
      go_wp2_with fail
      refine (WBytes_any B B r (encL fs) _ Hboth.out.w (by omega)).mono ?_
      rintro e w1 ⟨A5, c5, rfl, hown5, hb5⟩
      have hlen := Hboth.out.len
      rw [bytes_length, hlen] at hown5 ⊢
      have Hown5 := Lib.hid hown5
      have Hlen := Lib.hid hlen
      have Hwant := Lib.hid (own_below Hboth.out.own hb5)
      have Hb1 := Lib.hid (Hboth.out.below.trans (hb5.mono Hboth.out.size))
      clear hown5 hb5 hlen
      go_wp2_with fail
      refine (Same_any A5 A2 n2 n2 c5 c2 (encL fs) (encL fs) _ Hlen.out Hlen.out (.of_own Hown5.out) (.of_own Hwant.out) (by omega)).mono ?_
      rintro e w2 ⟨rfl, hb2⟩
      rw [show decide (encL fs = encL fs) = true from decide_eq_true rfl]
      have Hwant2 := Lib.hid (own_below Hwant.out hb2)
      have Hb2 := Lib.hid (Hb1.out.trans (hb2.mono (by have := Hb1.out.size; have := HB.out; omega)))
      clear hb2
      go_wp2_with fail
      refine (Read_any A2 n2 c2 (encL fs) _ Hlen.out (by omega) (.of_own Hwant2.out)).mono ?_
      rintro e w3 ⟨gr, rfl, hgr, hr3, hb3⟩
      have hB2 : B ≤ w2.heap.size := by have := Hb2.out.size; have := HB.out; omega
      have Hb3 := Lib.hid (Hb2.out.trans (hb3.mono hB2))
      have Hr3 := Lib.hid hr3
      have Hgr : B ≤ gr := by omega
      clear hr3 hb3 hgr
      go_wp2_with fail
      clear Hown5 Hwant Hwant2 Hb1 Hboth hel
      go_loopw [7] (fun i wr => ∃ j : Nat, i = .int .i64 j ∧ j ≤ n ∧ IsR wr gr (encL (fs.drop j)) 0 ∧ Below B w wr) (fun i _ => n - (intOf i).toNat)
      case atStart => exact ⟨0, rfl, by omega, Hr3.out, Hb3.out⟩
      case round =>
        obtain ⟨j, rfl, hj, hr, hbw⟩ := hrel
        have Hr := Lib.hid hr; clear hr
        have Hbw := Lib.hid hbw; clear hbw
        have hBw : B ≤ wr.heap.size := by have := Hbw.out.size; have := HB.out; omega
        by_cases hjt : j < n
        · obtain ⟨g, o, f, hA, hfk, hft, hf0⟩ := Hh.out.get (k := j) (by have := Hn.out; omega)
          obtain ⟨p1, p2, p3, p4, p5, p6, p7, p8, p9⟩ := hf0.below (Hbw.out.mono (Nat.le_of_eq HB.out))
          have hm100 := Hsm.out f (List.mem_of_getElem? hfk)
          have hdr : fs.drop j = f :: fs.drop (j + 1) := by
            obtain ⟨h1, h2⟩ := List.getElem?_eq_some_iff.1 hfk
            rw [List.drop_eq_getElem_cons h1, h2]
          subst hA
          rw [hdr, encL_cons] at Hr
          obtain ⟨ft, fn, fA, fm, fc, fbs⟩ := f
          simp only at p1 p2 p3 p4 p5 p6 p7 p8 p9 hm100
          clear hft hfk hdr
          have Hf0 := Lib.hid hf0; clear hf0
          have P4 := Lib.hid p4; clear p4
          clear p7
          cases ft with
          | true =>
            rw [encF_text rfl] at Hr
            have hrd : rdText (numB fm ++ fbs ++ encL (fs.drop (j + 1))) 0 100 = (fbs, encL (fs.drop (j + 1)), 0) := rd_text P4.out (by omega) (by omega)
            have Hrd := Lib.hid hrd; clear hrd
            go_wp2_with fail
            go_region_held3 (fun w' => w'.cell? ⟨g, o + j * 3 + 2, none⟩ = some (.slice fA fm fc)) (first | exact p3 | exact q3 | exact s3)
              (first | (go_at_call 15; go_loud (refine (RText_any gr 0 _ 100 wr.drew Hr.out (by omega) (by omega)).mono ?_; rintro e w4 hret; rw [Hrd.out] at hret; obtain ⟨A7, c7, rfl, hown7, hr7, ht7⟩ := hret; rw [P4.out] at hown7 ⊢; have Hown7 := Lib.hid hown7; have Hr7 := Lib.hid hr7; have Hb7 := Lib.hid (Hbw.out.drew.trans (ht7.below (B := B) (fun k e => by subst e; exact Hgr) hBw)); have Hf7 := Lib.hid (Hf0.out.below (Hb7.out.mono (Nat.le_of_eq HB.out))); have q3 := Hf7.out.2.2.1; clear hown7 hr7 ht7)) | (go_at_call 12; go_loud (refine (Same_any A7 fA fm fm c7 fc fbs fbs _ P4.out P4.out (.of_own Hown7.out) Hf7.out.2.2.2.2.2.2.1 (by omega)).mono ?_; rintro e w5 ⟨rfl, hb5⟩; rw [show decide (fbs = fbs) = true from decide_eq_true rfl]; have Hr8 := Lib.hid (Hr7.out.below hb5); have Hb8 := Lib.hid (Hb7.out.trans (hb5.mono (by have := Hb7.out.size; have := HB.out; omega))); have Hf8 := Lib.hid (Hf0.out.below (Hb8.out.mono (Nat.le_of_eq HB.out))); have s3 := Hf8.out.2.2.1; clear hb5)))
            all_goals
              go_wp2
              go_roundw
              case rel => exact ⟨j + 1, by go_num, by omega, Hr8.out, Hb8.out⟩
              case measure => simp [intOf]; omega
          | false =>
            rw [encF_num rfl] at Hr
            obtain ⟨q, hq⟩ : ∃ q : Nat, fn.toNat = q := ⟨_, rfl⟩
            have hmax : max fn 0 = (q : Int) := by omega
            have hrd : rdNum (numB fn.toNat ++ encL (fs.drop (j + 1))) 0 9223372036854775807 = (q, encL (fs.drop (j + 1)), 0) := by rw [hq]; exact rd_num (by omega) (by omega)
            have Hrd := Lib.hid hrd; clear hrd
            have Hmax := Lib.hid hmax; clear hmax hq
            by_cases hfn : fn < 0
            · have hq0 : q = 0 := by have := Hmax.out; omega
              subst hq0
              go_wp2_with fail
              go_region_held3 (fun w' => w'.cell? ⟨g, o + j * 3 + 1, none⟩ = some (.int .i64 fn)) (first | exact p2 | exact q2)
                (first | (go_at_call 16; go_loud (refine (RNum_any gr 0 _ 9223372036854775807 wr.drew Hr.out (by omega) (by omega)).mono ?_; rw [Hrd.out]; rintro e w4 ⟨rfl, hr7, ht7⟩; have Hr7 := Lib.hid hr7; have Hb7 := Lib.hid (Hbw.out.drew.trans (ht7.below (B := B) (fun k e => by subst e; exact Hgr) hBw)); have Hf7 := Lib.hid (Hf0.out.below (Hb7.out.mono (Nat.le_of_eq HB.out))); have q2 := Hf7.out.2.1; clear hr7 ht7)))
              all_goals
                go_wp2
                go_roundw
                case rel => exact ⟨j + 1, by go_num, by omega, Hr7.out, Hb7.out⟩
                case measure => simp [intOf]; omega
            · have hfq : fn = (q : Int) := by have := Hmax.out; omega
              subst hfq
              go_wp2_with fail
              go_region_held3 (fun w' => w'.cell? ⟨g, o + j * 3 + 1, none⟩ = some (.int .i64 (q : Int))) (first | exact p2 | exact q2)
                (first | (go_at_call 16; go_loud (refine (RNum_any gr 0 _ 9223372036854775807 wr.drew Hr.out (by omega) (by omega)).mono ?_; rw [Hrd.out]; rintro e w4 ⟨rfl, hr7, ht7⟩; have Hr7 := Lib.hid hr7; have Hb7 := Lib.hid (Hbw.out.drew.trans (ht7.below (B := B) (fun k e => by subst e; exact Hgr) hBw)); have Hf7 := Lib.hid (Hf0.out.below (Hb7.out.mono (Nat.le_of_eq HB.out))); have q2 := Hf7.out.2.1; clear hr7 ht7)))
              all_goals
                go_wp2
                go_roundw
                case rel => exact ⟨j + 1, by go_num, by omega, Hr7.out, Hb7.out⟩
                case measure => simp [intOf]; omega
        · have hdr : fs.drop j = [] := List.drop_of_length_le (by have := Hn.out; omega)
          rw [hdr] at Hr
          clear hdr
          go_wp2_with fail
          refine (End_any gr 0 [] _ Hr.out).mono ?_
          rintro e w4 ⟨rfl, rfl⟩
          rw [show endOf [] 0 = 0 from rfl]
          go_wp2_with fail
          refine (awake_any _).mono ?_
          rintro e w7 ⟨rfl, hb7⟩
          have Hb7 := Lib.hid (Hbw.out.trans (hb7.mono hBw))
          clear hb7
          go_wp2
          go_ret
          rw [HB.out]
          exact ⟨rfl, Hb7.out⟩

theorem walk (A : Option Addr) (n c : Nat) (fs : List Fld) (w : World) (hn : fs.length = n) (hnc : n ≤ c) (hcm : c ≤ maxLen) (h : FldsAt w A fs) :
    Calls Try.prog 3 #[.slice A n c] w fun e w' => e = .returned (.bool true) ∧ Below w.heap.size w w' := by
  by_cases h20 : 20 < n
  · exact walk_long A n c w h20 (by omega)
  · exact walk_main A n c fs w hn (by omega) h

/-! ### THE ROW -/
theorem own : ownKnob Try.prog.godebug = none := by kernel_rfl

set_option maxRecDepth 100000 in
theorem lifted (os : Os) (started : os.Started) (H : Type) (enc : TypeId × Value → H) :
    ReturnsInHanded {} Try.checked os 3 .any (Rows.packWritesSpec.pre6 enc Try.prog Try.f3 Rows.packWritesRow.domain false) (Rows.packWritesSpec.post enc Try.prog Try.f3 false true false false) := by
  refine returnsInHanded_of_change (C := Try.checked) own started (by kernel_rfl) Try.func3
    (ChangeSpec.witness6 (enc := enc) (C := Try.checked) false ⟨#[], #[.slice none 0 0], []⟩ 8 (by kernel_rfl) (by kernel_rfl) (by kernel_rfl) (by kernel_rfl)) ?_
  intro W base args ds gs before hval0 hW hcnd _
  have hval : ∀ (j : Nat) t v, Try.f3.params[j]? = some t → args[j]? = some v → Value.okWide Try.prog W .any base t v := hval0
  have hW' := hW
  obtain ⟨p, q, hA0, hV, rfl, hfz, hnd⟩ := hW
  have hA : DataW.TrodAll enc Try.prog W 0 (fun _ => true) true Try.f3.params.toList args.toList ds p := hA0
  rw [Try.params3] at hA hval
  obtain ⟨v0, vs0, d0, ds0, p0, q0, hargs, rfl, rfl, h0, r0⟩ := trodAll_cons hA
  obtain ⟨rfl, rfl, rfl⟩ := trodAll_nil r0
  obtain rfl : args = #[v0] := by cases args; simp_all
  obtain ⟨rfl, rfl⟩ := trodVars_none hV
  obtain ⟨A0, n0, c0, fs0, rfl, hn0, hnc0, hcm0, hf0⟩ := open_fields Try.underlying22 Try.underlying28 rfl rfl rfl rfl rfl rfl Try.underlying4 Try.underlying3 Try.underlying24 Try.underlying5 (by kernel_rfl) (by kernel_rfl) (by kernel_rfl) (by kernel_rfl) (by kernel_rfl) (hval 0 22 v0 rfl rfl) h0
  refine (walk A0 n0 c0 fs0 W hn0 hnc0 hcm0 hf0).mono fun e W' ⟨he, hg⟩ => ?_
  subst he
  exact ⟨_, rfl, law_post hW' rfl (by kernel_rfl) (by kernel_rfl) (by kernel_rfl) Try.underlying4 rfl rfl rfl hg⟩

theorem over : Rows.packWritesRow.holds Try.pinned (OpenSpec.ofChange Rows.packWritesSpec) :=
  OpenClaim.holds_of_wide 3 Try.f3 rfl rfl rfl rfl rfl rfl rfl ⟨rfl, rfl, rfl, rfl, rfl⟩ rfl rfl rfl rfl rfl (by kernel_rfl) Try.func3 (by kernel_rfl)
    (of_decide_eq_true (by kernel_rfl)) (by unfold Func.isWrapper; first | (rw [if_pos (by decide +kernel)]; kernel_rfl) | (rw [if_neg (by decide +kernel)]; exact ⟨rfl, rfl⟩))
    (fun os started H enc _ => lifted os started H enc)

theorem proved : Rows.PackWritesSaid :=
  over
#print axioms proved

end Go.Proofs.Yteiakgnnlgjfnaa.packWrites
