/- For any bytes b, CrcOpens returns true: any bytes are opened, or refused, as the document says, and what was sealed is opened as it was; bytes longer than 1000 ask the document's example alone. Conditions: none. -/
import Derived.Test.YtilgkhenjhpcaaaRows
import Derived.Test.YtilgkhenjhpcaaaLaw
import Derived.Test.YtilgkhenjhpcaaaCrcF
namespace Go.Proofs.Ytilgkhenjhpcaaa.crcOpens
open Go.ChangeShapes Go.WideShapes Go.ChangeAt Go.RowKit
set_option linter.unusedVariables false

theorem Open_no (A : Option Addr) (n c : Nat) (bs : List UInt8) (w : World) (hn : bs.length = n) (hl : n ≤ 900000) (hc : n ≤ c) (hcm : c ≤ maxLen) (h : Seen w A (bytesV bs)) (hf : openB bs = false) :
    Calls Try.prog 14 #[.slice A n c] w fun e w' => e = .returned (.tuple #[.slice none 0 0, .bool false]) ∧ Below w.heap.size w w' := by
  have := Open_any A n c bs w hn hl hc hcm h
  rw [hf] at this
  simpa using this
theorem Open_yes (A : Option Addr) (n c : Nat) (bs : List UInt8) (w : World) (hn : bs.length = n) (hl : n ≤ 900000) (hc : n ≤ c) (hcm : c ≤ maxLen) (h : Seen w A (bytesV bs)) (hf : openB bs = true) :
    Calls Try.prog 14 #[.slice A n c] w (OpenRet (bytesV (bs.take (n - 4))) w) := by
  have := Open_any A n c bs w hn hl hc hcm h
  rw [hf, if_pos rfl] at this
  exact this
theorem ROpen_no (A : Option Addr) (n c : Nat) (bs : List UInt8) (w : World) (hn : bs.length = n) (hl : n ≤ 900000) (hc : n ≤ c) (hcm : c ≤ maxLen) (h : Seen w A (bytesV bs)) (hf : openB bs = false) :
    Calls Try.prog 15 #[.slice A n c] w fun e w' => e = .returned (.tuple #[.slice none 0 0, .bool false]) ∧ Below w.heap.size w w' := by
  have := ROpen_any A n c bs w hn hl hc hcm h
  rw [hf] at this
  simpa using this
theorem ROpen_yes (A : Option Addr) (n c : Nat) (bs : List UInt8) (w : World) (hn : bs.length = n) (hl : n ≤ 900000) (hc : n ≤ c) (hcm : c ≤ maxLen) (h : Seen w A (bytesV bs)) (hf : openB bs = true) :
    Calls Try.prog 15 #[.slice A n c] w fun e w' => e = .returned (.tuple #[.slice A (n - 4) c, .bool true]) ∧ Below w.heap.size w w' := by
  have := ROpen_any A n c bs w hn hl hc hcm h
  rw [hf] at this
  simpa using this
theorem own_cap {w : World} {base n c : Nat} {A : Option Addr} {e : TypeId} {xs : List Value} (h : w.ownsRow base e 1 (.slice A n c) n xs) (hn : 0 < n) : n ≤ c ∧ c ≤ maxLen := by
  rcases h.2 with ⟨hv, _⟩ | ⟨g', cap, cur, hv, _, _, h1, h2, _⟩
  · injection hv with _ h2 _
    omega
  · injection hv with _ _ h3
    subst h3
    exact ⟨h1, h2⟩

theorem Seal_n (A : Option Addr) (n c : Nat) (bs : List UInt8) (w : World) (hn : bs.length = n) (h : Seen w A (bytesV bs)) (hl : n ≤ 1000000) :
    Calls Try.prog 12 #[.slice A n c] w (OwnRet 5 (bytesV (sealOf bs)) w) := by
  subst hn
  exact Seal_any A c bs w h hl
theorem walk_awake (A : Option Addr) (n c : Nat) (w : World) (h : 1000 < n) (hm : n ≤ maxLen) :
    Calls Try.prog 4 #[.slice A n c] w fun e w' => e = .returned (.bool true) ∧ Below w.heap.size w w' := by
  go_enter Try.func4, Try.ntmps4
  go_wp2_with (go_at_call 7; refine (awake_any _).mono ?_; rintro e w' ⟨rfl, hb⟩)
  go_ret
  exact ⟨rfl, hb⟩

theorem walk_main (A : Option Addr) (n c : Nat) (bs : List UInt8) (w : World) (hn : bs.length = n) (hnc : n ≤ c) (hcm : c ≤ maxLen) (h : Seen w A (bytesV bs)) (h1 : n ≤ 1000) :
    Calls Try.prog 4 #[.slice A n c] w fun e w' => e = .returned (.bool true) ∧ Below w.heap.size w w' := by
  have Hh := Lib.hid h; clear h
  have el : (bytesV (sealOf bs)).length = n + 4 := by rw [bytes_length, sealOf_length, hn]
  have El := Lib.hid el
  clear el
  have hso := openB_seal bs
  have Hso := Lib.hid hso; clear hso
  have htk : (sealOf bs).take n = bs := by rw [sealOf, ← hn]; simp
  have Htk := Lib.hid htk; clear htk
  have hsl : (sealOf bs).length = n + 4 := by rw [sealOf_length, hn]
  have Hsl := Lib.hid hsl; clear hsl
  have Hn := Lib.hid hn; clear hn
  have Hcm := Lib.hid hcm
  cases hB : openB bs with
  | false =>
    have HB := Lib.hid hB; clear hB
    go_enter Try.func4, Try.ntmps4
    go_wp2_with fail
    refine (Open_no A n c bs _ Hn.out (by omega) hnc Hcm.out Hh.out HB.out).mono ?_
    rintro e w1 ⟨rfl, hb⟩
    have H1 := Lib.hid hb; clear hb
    go_wp2_with fail
    refine (ROpen_no A n c bs _ Hn.out (by omega) hnc Hcm.out (Hh.out.below H1.out) HB.out).mono ?_
    rintro e w2 ⟨rfl, hb⟩
    have H2 := Lib.hid (H1.out.trans (hb.mono H1.out.size)); clear hb
    go_wp2_with fail
    refine (Seal_n A n c bs _ Hn.out (Hh.out.below H2.out) (by omega)).mono ?_
    rintro e w3 ⟨A3, c3, rfl, hown3, hb⟩
    rw [El.out] at hown3 ⊢
    have Hx := Lib.hid hb
    have H3 := Lib.hid (H2.out.trans (hb.mono H2.out.size)); clear hb
    have hcc := own_cap hown3 (by omega)
    have Hcc := Lib.hid hcc; clear hcc
    have Hown3 := Lib.hid hown3; clear hown3
    go_wp2_with fail
    refine (Open_yes A3 (n + 4) c3 (sealOf bs) _ Hsl.out (by omega) Hcc.out.1 Hcc.out.2 (Seen.of_own Hown3.out) Hso.out).mono ?_
    rintro e w4 ⟨A4, c4, rfl, hown4, hb⟩
    rw [show n + 4 - 4 = n by omega, Htk.out] at hown4 ⊢
    rw [bytes_length, Hn.out] at hown4 ⊢
    have Hown4 := Lib.hid hown4; clear hown4
    have Hy := Lib.hid hb
    have H4 := Lib.hid (H3.out.trans (hb.mono H3.out.size)); clear hb
    go_wp2_with fail
    refine (Same_any none none 0 0 0 0 [] [] _ rfl rfl (Seen.nil _ _) (Seen.nil _ _) (by omega)).mono ?_
    rintro e w5 ⟨rfl, hb⟩
    have Hz := Lib.hid hb
    have H5 := Lib.hid (H4.out.trans (hb.mono H4.out.size)); clear hb
    rw [decide_eq_true rfl]
    go_wp2_with fail
    refine (Same_any A4 A n n c4 c bs bs _ Hn.out Hn.out (Seen.of_own (own_below Hown4.out Hz.out)) (Hh.out.below H5.out) (by omega)).mono ?_
    rintro e w6 ⟨rfl, hb⟩
    have H6 := Lib.hid (H5.out.trans (hb.mono H5.out.size)); clear hb
    rw [decide_eq_true rfl]
    go_wp2_with (go_at_call 7; refine (awake_any _).mono ?_; rintro e w7 ⟨rfl, hb7⟩)
    go_ret
    exact ⟨rfl, H6.out.trans (hb7.mono H6.out.size)⟩
  | true =>
    have HB := Lib.hid hB; clear hB
    go_enter Try.func4, Try.ntmps4
    go_wp2_with fail
    refine (Open_yes A n c bs _ Hn.out (by omega) hnc Hcm.out Hh.out HB.out).mono ?_
    rintro e w1 ⟨A1, c1, rfl, hown1, hb⟩
    have H1 := Lib.hid hb; clear hb
    have Hown1 := Lib.hid hown1; clear hown1
    go_wp2_with fail
    refine (ROpen_yes A n c bs _ Hn.out (by omega) hnc Hcm.out (Hh.out.below H1.out) HB.out).mono ?_
    rintro e w2 ⟨rfl, hb⟩
    have Hw := Lib.hid hb
    have H2 := Lib.hid (H1.out.trans (hb.mono H1.out.size)); clear hb
    go_wp2_with fail
    refine (Seal_n A n c bs _ Hn.out (Hh.out.below H2.out) (by omega)).mono ?_
    rintro e w3 ⟨A3, c3, rfl, hown3, hb⟩
    rw [El.out] at hown3 ⊢
    have Hx := Lib.hid hb
    have H3 := Lib.hid (H2.out.trans (hb.mono H2.out.size)); clear hb
    have hcc := own_cap hown3 (by omega)
    have Hcc := Lib.hid hcc; clear hcc
    have Hown3 := Lib.hid hown3; clear hown3
    go_wp2_with fail
    refine (Open_yes A3 (n + 4) c3 (sealOf bs) _ Hsl.out (by omega) Hcc.out.1 Hcc.out.2 (Seen.of_own Hown3.out) Hso.out).mono ?_
    rintro e w4 ⟨A4, c4, rfl, hown4, hb⟩
    rw [show n + 4 - 4 = n by omega, Htk.out] at hown4 ⊢
    rw [bytes_length, Hn.out] at hown4 ⊢
    have Hown4 := Lib.hid hown4; clear hown4
    have Hy := Lib.hid hb
    have H4 := Lib.hid (H3.out.trans (hb.mono H3.out.size)); clear hb
    go_wp2_with fail
    refine (Same_any A1 A _ (n - 4) c1 c (bs.take (n - 4)) (bs.take (n - 4)) _ (bytes_length _).symm (by have := Hn.out; rw [List.length_take]; omega) (Seen.of_own (own_below (own_below (own_below Hown1.out Hw.out) Hx.out) Hy.out)) (seen_take (n - 4) (Hh.out.below H4.out)) (by rw [bytes_length, List.length_take]; omega)).mono ?_
    rintro e w5 ⟨rfl, hb⟩
    have Hz := Lib.hid hb
    have H5 := Lib.hid (H4.out.trans (hb.mono H4.out.size)); clear hb
    rw [decide_eq_true rfl]
    go_wp2_with fail
    refine (Same_any A4 A n n c4 c bs bs _ Hn.out Hn.out (Seen.of_own (own_below Hown4.out Hz.out)) (Hh.out.below H5.out) (by omega)).mono ?_
    rintro e w6 ⟨rfl, hb⟩
    have H6 := Lib.hid (H5.out.trans (hb.mono H5.out.size)); clear hb
    rw [decide_eq_true rfl]
    go_wp2_with (go_at_call 7; refine (awake_any _).mono ?_; rintro e w7 ⟨rfl, hb7⟩)
    go_ret
    exact ⟨rfl, H6.out.trans (hb7.mono H6.out.size)⟩

theorem walk (A : Option Addr) (n c : Nat) (bs : List UInt8) (w : World) (hn : bs.length = n) (hnc : n ≤ c) (hcm : c ≤ maxLen) (h : Seen w A (bytesV bs)) :
    Calls Try.prog 4 #[.slice A n c] w fun e w' => e = .returned (.bool true) ∧ Below w.heap.size w w' := by
  by_cases h1 : 1000 < n
  · exact walk_awake A n c w h1 (by omega)
  · exact walk_main A n c bs w hn hnc hcm h (by omega)

/-! ### THE ROW -/
theorem own : ownKnob Try.prog.godebug = none := by kernel_rfl

set_option maxRecDepth 100000 in
theorem lifted (os : Os) (started : os.Started) (H : Type) (enc : TypeId × Value → H) :
    ReturnsInHanded {} Try.checked os 4 .any (Rows.crcOpensSpec.pre6 enc Try.prog Try.f4 Rows.crcOpensRow.domain false) (Rows.crcOpensSpec.post enc Try.prog Try.f4 false true false false) := by
  refine returnsInHanded_of_change (C := Try.checked) own started (by kernel_rfl) Try.func4
    (ChangeSpec.witness6 (enc := enc) (C := Try.checked) false ⟨#[], #[.slice none 0 0], []⟩ 8 (by kernel_rfl) (by kernel_rfl) (by kernel_rfl) (by kernel_rfl)) ?_
  intro W base args ds gs before hval0 hW hcnd _
  have hval : ∀ (j : Nat) t v, Try.f4.params[j]? = some t → args[j]? = some v → Value.okWide Try.prog W .any base t v := hval0
  have hW' := hW
  obtain ⟨p, q, hA0, hV, rfl, hfz, hnd⟩ := hW
  have hA : DataW.TrodAll enc Try.prog W 0 (fun _ => true) true Try.f4.params.toList args.toList ds p := hA0
  rw [Try.params4] at hA hval
  obtain ⟨v0, vs0, d0, ds0, p0, q0, hargs, rfl, rfl, h0, r0⟩ := trodAll_cons hA
  obtain ⟨rfl, rfl, rfl⟩ := trodAll_nil r0
  obtain rfl : args = #[v0] := by cases args; simp_all
  obtain ⟨rfl, rfl⟩ := trodVars_none hV
  obtain ⟨A0, n0, c0, bs0, rfl, hn0, hnc0, hcm0, hsee0⟩ := open_bytes Try.underlying22 Try.underlying5 (by kernel_rfl) (hval 0 22 v0 rfl rfl) h0
  refine (walk A0 n0 c0 bs0 W hn0 hnc0 hcm0 hsee0).mono fun e W' ⟨he, hg⟩ => ?_
  subst he
  exact ⟨_, rfl, law_post hW' rfl (by kernel_rfl) (by kernel_rfl) (by kernel_rfl) Try.underlying4 rfl rfl rfl hg⟩

theorem over : Rows.crcOpensRow.holds Try.pinned (OpenSpec.ofChange Rows.crcOpensSpec) :=
  OpenClaim.holds_of_wide 4 Try.f4 rfl rfl rfl rfl rfl rfl rfl ⟨rfl, rfl, rfl, rfl, rfl⟩ rfl rfl rfl rfl rfl (by kernel_rfl) Try.func4 (by kernel_rfl)
    (of_decide_eq_true (by kernel_rfl)) (by unfold Func.isWrapper; first | (rw [if_pos (by decide +kernel)]; kernel_rfl) | (rw [if_neg (by decide +kernel)]; exact ⟨rfl, rfl⟩))
    (fun os started H enc _ => lifted os started H enc)

theorem proved : Rows.CrcOpensSaid :=
  over
#print axioms proved

end Go.Proofs.Ytilgkhenjhpcaaa.crcOpens
