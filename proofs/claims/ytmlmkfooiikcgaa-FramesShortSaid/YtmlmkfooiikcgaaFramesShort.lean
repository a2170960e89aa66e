/- For any message m, any int cut and any byte more, FramesShort returns true: a front of a right message's form, and the form with a byte more, is refused (or read) as the document says; other messages, and those greater than what is looked at, ask the document's example alone. Conditions: none. -/
import Derived.Test.YtmlmkfooiikcgaaRows
import Derived.Test.YtmlmkfooiikcgaaLaw
import Derived.Test.YtmlmkfooiikcgaaFraA
import Derived.Test.YtmlmkfooiikcgaaFraG
namespace Go.Proofs.Ytmlmkfooiikcgaa.framesShort
open Go.ChangeShapes Go.WideShapes Go.ChangeAt Go.RowKit
set_option linter.unusedVariables false
attribute [local go_sem ↓] ldMsg_eq

set_option maxRecDepth 100000 in
set_option maxHeartbeats 2000000 in
theorem walk_main (m : Msg) (N B L : Option Addr) (nn nc bn bc ln lc : Nat) (a t : Int) (w : World) (h : MsgAt w m N nn nc B bn bc L ln lc) (ha1 : -9223372036854775808 ≤ a) (ha2 : a ≤ 9223372036854775807) (ht1 : 0 ≤ t) (ht2 : t < 256) :
    Calls Try.prog 7 #[.agg #[.int .i64 m.k, .slice N nn nc, .slice B bn bc, .slice L ln lc], .int .i64 a, .int .u8 t] w fun e w' => e = .returned (.bool true) ∧ Below w.heap.size w w' := by
  have H := Lib.hid h; clear h
  obtain ⟨w1, hw1, hb1, hh1⟩ : ∃ w1, w.alloc (.cells #[.int .i64 m.k, .slice N nn nc, .slice B bn bc, .slice L ln lc] 26) = w1 ∧ Below w.heap.size w w1 ∧ w1.heap[w.heap.size]? = some (.cells #[.int .i64 m.k, .slice N nn nc, .slice B bn bc, .slice L ln lc] 26 (0, 0)) :=
    ⟨_, rfl, (Below.refl _ _).alloc (Nat.le_refl _) _, heap_alloc_new _ _⟩
  have Hb1 := Lib.hid hb1
  have Hld := Lib.hid (fun (w' : World) (hb : Below w1.heap.size w1 w') => ldMsg_run (row_below hh1 hb))
  have hl1 := Hld.out w1 (Below.refl _ _)
  clear hh1 hb1
  go_enter Try.func7, Try.ntmps7
  go_wp2_with fail
  refine (Great_any m N B L nn nc bn bc ln lc w1 (H.out.below Hb1.out)).mono ?_
  rintro e w2 ⟨hg, hb2⟩
  have hl2 := Hld.out w2 hb2
  have Hw2 := Lib.hid hb2
  have Hb2 := Lib.hid (Hb1.out.trans (hb2.mono Hb1.out.size))
  clear hb2 hw1 hl1
  rcases hg with rfl | rfl
  · go_wp2_with (go_at_call 9; refine (awake_any _).mono ?_; rintro e w3 ⟨rfl, hb3⟩)
    go_ret
    exact ⟨rfl, Hb2.out.trans (hb3.mono Hb2.out.size)⟩
  have hright := Right_any m N B L nn nc bn bc ln lc w2 (H.out.below Hb2.out)
  cases hr : rightM m with
  | false =>
    rw [hr] at hright
    have Hright := Lib.hid hright; clear hright hr
    go_wp2_with (first
      | (go_at_call 11; refine Hright.out.mono ?_; rintro e w3 ⟨rfl, hb3⟩; have Hb3 := Lib.hid (Hb2.out.trans (hb3.mono Hb2.out.size)); clear hb3)
      | (go_at_call 9; refine (awake_any _).mono ?_; rintro e w4 ⟨rfl, hb4⟩))
    go_ret
    exact ⟨rfl, Hb3.out.trans (hb4.mono Hb3.out.size)⟩
  | true =>
    rw [hr] at hright
    have Hright := Lib.hid hright; clear hright
    obtain ⟨T, rfl⟩ : ∃ u : Nat, t = u := ⟨t.toNat, by omega⟩
    have Hput := Lib.hid (fun w' (hb : Below w.heap.size w w') => Put_yes m N B L nn nc bn bc ln lc w' (H.out.below hb) hr)
    have hfl := fields_len hr
    have hfp := fields_pos m
    have hsl : (formM m).length = (fieldsM m).length + 4 := sealOf_length _
    have HT := Lib.hid (show T < 256 ∧ True from ⟨by omega, trivial⟩)
    clear hr ht1 ht2
    go_wp2_with (go_at_call 11; refine Hright.out.mono ?_; rintro e w3 ⟨rfl, hb3⟩; have Hb3 := Lib.hid (Hb2.out.trans (hb3.mono Hb2.out.size)); have hl3 := Hld.out w3 (Hw2.out.trans (hb3.mono Hw2.out.size)); clear hb3)
    refine (Hput.out w3 Hb3.out).mono ?_
    rintro e w4 ⟨A4, n4, c4, rfl, hlen, hown, hb4⟩
    have hn4 : n4 ≤ 70004 := by omega
    have hn8 : 8 ≤ n4 := by omega
    have hcap := own_cap0 hown
    obtain ⟨g, cap, hv, hg1, hg2⟩ := hown.form (by omega)
    injection hv with hA hnn hc
    clear hnn
    subst hA; subst hc
    obtain ⟨s, hs⟩ : ∃ s, formM m = s := ⟨_, rfl⟩
    rw [hs] at hlen hown
    have Hlen := Lib.hid hlen; have Own4 := Lib.hid hown; have Hcap := Lib.hid hcap
    have Hb4 := Lib.hid (Hb3.out.trans (hb4.mono Hb3.out.size))
    have e1 := Int.emod_nonneg a (show (n4 : Int) ≠ 0 by omega)
    have e2 := Int.emod_lt_of_pos a (show 0 < (n4 : Int) by omega)
    obtain ⟨K, hK⟩ : ∃ K : Nat, a % (n4 : Int) = K := ⟨(a % (n4 : Int)).toNat, by omega⟩
    have hKl : K < n4 := by omega
    have hK0 : (0 : Int) ≤ (K : Int) := by omega
    have hK1 : (K : Int) ≤ (c4 : Int) := by omega
    have HK := Lib.hid hK
    have hown0 : (w4.alloc (.cells #[] 5)).ownsRow w4.heap.size 5 1 (.slice (some ⟨w4.heap.size, 0, none⟩) 0 0) 0 [] := World.ownsRow_lit w4 #[] 0 (Nat.le_refl _) (by unfold maxLen; omega) rfl
    have hb0 : Below w4.heap.size w4 (w4.alloc (.cells #[] 5)) := (Below.refl _ _).alloc (Nat.le_refl _) _
    have Hown0 := Lib.hid hown0; have Hb0 := Lib.hid hb0
    have hfront : (s.take K).length = K := by rw [List.length_take, hlen]; omega
    have Hfront := Lib.hid hfront
    obtain ⟨M, E, hM⟩ := pair_of (readM (s.take K))
    have HM := Lib.hid hM
    obtain ⟨M', E', hM'⟩ := pair_of (readM (s ++ [UInt8.ofNat T]))
    have HM' := Lib.hid hM'
    have hlong : (s ++ [UInt8.ofNat T]).length = n4 + 1 := by rw [List.length_append, hlen]; rfl
    have Hlong := Lib.hid hlong
    have HKl := Lib.hid hKl
    clear hb4 hl3 hl2 hlen hown hcap hfl hsl hfp e1 e2 hK hs hg1 hg2 hown0 hb0 hfront hM hM' hlong hKl
    go_wp2_with fail
    refine (Pick_any a (n4 : Int) _ ha1 ha2 (by omega) (by omega)).mono ?_
    rintro e w' ⟨rfl, rfl⟩
    rw [HK.out]
    go_wp2_with (at_builtin; refine wpList_app rfl (.tmp 45) (.tmp 48) _ rfl 5 _ 1 Try.underlying23 u8_info rfl w4.heap.size _ 0 0 [] rfl Hown0.out (some ⟨g, 0, none⟩) K c4 (bytesV (s.take K)) rfl (by rw [bytes_length]; exact Hfront.out) ((seen_take K (Seen.of_own Own4.out)).alloc _) (bytes_one _) (by unfold maxLen; have := HKl.out; omega) (by have := HKl.out; omega) Hb0.out.size ?_; intro A6 c6 w6 hown6 hb6; simp only [Nat.zero_add, List.nil_append] at hown6; have Hown6 := Lib.hid hown6; have Hx6 := Lib.hid (Hb0.out.trans hb6); clear hown6 hb6; simp only [Nat.zero_add])
    have hcap6 := own_cap0 Hown6.out
    have Hb6 := Lib.hid (Hb4.out.trans (Hx6.out.mono Hb4.out.size))
    have HA := Lib.hid (fun w' (hb : Below w6.heap.size w6 w') => Read_any A6 K c6 (s.take K) w' Hfront.out (by have := HKl.out; omega) hcap6.1 hcap6.2 ((Seen.of_own Hown6.out).below hb) HM.out)
    have HR := Lib.hid (fun w' (hb : Below w6.heap.size w6 w') => RRead_any A6 K c6 (s.take K) w' Hfront.out (by have := HKl.out; omega) hcap6.1 hcap6.2 ((Seen.of_own Hown6.out).below hb) HM.out)
    clear hcap6
    refine (HA.out w6 (Below.refl _ _)).mono ?_
    rintro e w7 ⟨N7, nn7, nc7, B7, bn7, bc7, L7, ln7, lc7, rfl, hm7, hb7⟩
    have Hb7 := Lib.hid (Hb6.out.trans (hb7.mono Hb6.out.size)); have Hx7 := Lib.hid hb7
    clear hm7 hb7
    obtain ⟨w8, hw8, hq8⟩ : ∃ w', w7.alloc (.cells #[.int .i64 M.k, .slice N7 nn7 nc7, .slice B7 bn7 bc7, .slice L7 ln7 lc7] 26) = w' ∧ Below w7.heap.size w7 w' := ⟨_, rfl, (Below.refl _ _).alloc (Nat.le_refl _) _⟩
    have Hw8 := Lib.hid hw8; have Hb8 := Lib.hid (Hb7.out.trans (hq8.mono Hb7.out.size)); have Hx8 := Lib.hid (Hx7.out.trans (hq8.mono Hx7.out.size))
    clear hw8 hq8
    go_wp2_with (refine wpList_store_row rfl 26 (.tmp 11) (.tmp 53) rfl w7.heap.size #[.int .i64 M.k, .slice N7 nn7 nc7, .slice B7 bn7 bc7, .slice L7 ln7 lc7] rfl rfl 26 _ (heap_alloc_new _ _) msg_info rfl (by simp [Value.oneCell']) ?_; rw [World.setRow_alloc_new, Hw8.out])
    refine (HR.out w8 Hx8.out).mono ?_
    rintro e w9 ⟨N9, nn9, nc9, B9, bn9, bc9, L9, ln9, lc9, rfl, hm9, hb9⟩
    have Hb9 := Lib.hid (Hb8.out.trans (hb9.mono Hb8.out.size)); have Hx9 := Lib.hid (Hx8.out.trans (hb9.mono Hx8.out.size))
    clear hm9 hb9
    obtain ⟨w10, hw10, hq10⟩ : ∃ w', w9.alloc (.cells #[.int .i64 M.k, .slice N9 nn9 nc9, .slice B9 bn9 bc9, .slice L9 ln9 lc9] 26) = w' ∧ Below w9.heap.size w9 w' := ⟨_, rfl, (Below.refl _ _).alloc (Nat.le_refl _) _⟩
    have Hw10 := Lib.hid hw10; have Hb10 := Lib.hid (Hb9.out.trans (hq10.mono Hb9.out.size)); have Hx10 := Lib.hid (Hx9.out.trans (hq10.mono Hx9.out.size))
    clear hw10 hq10
    have hs10 : Seen w10 (some ⟨g, 0, none⟩) (bytesV s) := (Seen.of_own Own4.out).below (Hx6.out.trans (Hx10.out.mono Hx6.out.size))
    have Hs10 := Lib.hid hs10
    have hown1 : (w10.alloc (.cells #[] 5)).ownsRow w10.heap.size 5 1 (.slice (some ⟨w10.heap.size, 0, none⟩) 0 0) 0 [] := World.ownsRow_lit w10 #[] 0 (Nat.le_refl _) (by unfold maxLen; omega) rfl
    have hb1' : Below w10.heap.size w10 (w10.alloc (.cells #[] 5)) := (Below.refl _ _).alloc (Nat.le_refl _) _
    have Hown1 := Lib.hid hown1; have Hb1' := Lib.hid hb1'
    clear hs10 hown1 hb1'
    go_wp2_with (first
      | (refine wpList_store_row rfl 26 (.tmp 13) (.tmp 58) rfl w9.heap.size #[.int .i64 M.k, .slice N9 nn9 nc9, .slice B9 bn9 bc9, .slice L9 ln9 lc9] rfl rfl 26 _ (heap_alloc_new _ _) msg_info rfl (by simp [Value.oneCell']) ?_; rw [World.setRow_alloc_new, Hw10.out])
      | (at_builtin; refine wpList_app rfl (.tmp 60) (.tmp 61) _ rfl 5 _ 1 Try.underlying23 u8_info rfl w10.heap.size _ 0 0 [] rfl Hown1.out (some ⟨g, 0, none⟩) n4 c4 (bytesV s) rfl (by rw [bytes_length]; exact Hlen.out) (Hs10.out.alloc _) (bytes_one _) (by unfold maxLen; omega) (by omega) Hb1'.out.size ?_; intro A12 c12 w12 hown12 hb12; simp only [Nat.zero_add, List.nil_append] at hown12; have Hown12 := Lib.hid hown12; have Hx12 := Lib.hid (Hb1'.out.trans hb12); clear hown12 hb12; simp only [Nat.zero_add])
      | (at_builtin; refine wpList_app rfl (.tmp 62) (.tmp 64) _ rfl 5 _ 1 Try.underlying23 u8_info rfl w10.heap.size A12 n4 c12 (bytesV s) rfl (own_below Hown12.out ((Below.refl _ _).alloc (Nat.le_refl _) _)) (some ⟨w12.heap.size, 0, none⟩) 1 1 [.int .u8 (T : Int)] rfl rfl (Seen.of_cells (heap_alloc_new w12 _)) (by simp [Value.oneCell']) (by unfold maxLen; omega) (by omega) (by have := Hx12.out.size; simp; omega) ?_; intro A14 c14 w14 hown14 hb14; rw [bytes_snoc HT.out.1] at hown14; have Hown14 := Lib.hid hown14; have Hx14 := Lib.hid ((Hx12.out.alloc Hx12.out.size (.cells #[.int .u8 (T : Int)] 5)).trans hb14); clear hown14 hb14))
    have hcap14 := own_cap0 Hown14.out
    have Hb14 := Lib.hid (Hb10.out.trans (Hx14.out.mono Hb10.out.size))
    have HA2 := Lib.hid (fun w' (hb : Below w14.heap.size w14 w') => Read_any A14 (n4 + 1) c14 (s ++ [UInt8.ofNat T]) w' Hlong.out (by omega) hcap14.1 hcap14.2 ((Seen.of_own Hown14.out).below hb) HM'.out)
    have HR2 := Lib.hid (fun w' (hb : Below w14.heap.size w14 w') => RRead_any A14 (n4 + 1) c14 (s ++ [UInt8.ofNat T]) w' Hlong.out (by omega) hcap14.1 hcap14.2 ((Seen.of_own Hown14.out).below hb) HM'.out)
    clear hcap14
    refine (HA2.out w14 (Below.refl _ _)).mono ?_
    rintro e w15 ⟨N15, nn15, nc15, B15, bn15, bc15, L15, ln15, lc15, rfl, hm15, hb15⟩
    have Hb15 := Lib.hid (Hb14.out.trans (hb15.mono Hb14.out.size)); have Hx15 := Lib.hid hb15
    clear hm15 hb15
    obtain ⟨w16, hw16, hq16⟩ : ∃ w', w15.alloc (.cells #[.int .i64 M'.k, .slice N15 nn15 nc15, .slice B15 bn15 bc15, .slice L15 ln15 lc15] 26) = w' ∧ Below w15.heap.size w15 w' := ⟨_, rfl, (Below.refl _ _).alloc (Nat.le_refl _) _⟩
    have Hw16 := Lib.hid hw16; have Hb16 := Lib.hid (Hb15.out.trans (hq16.mono Hb15.out.size)); have Hx16 := Lib.hid (Hx15.out.trans (hq16.mono Hx15.out.size))
    clear hw16 hq16
    go_wp2_with (refine wpList_store_row rfl 26 (.tmp 16) (.tmp 69) rfl w15.heap.size #[.int .i64 M'.k, .slice N15 nn15 nc15, .slice B15 bn15 bc15, .slice L15 ln15 lc15] rfl rfl 26 _ (heap_alloc_new _ _) msg_info rfl (by simp [Value.oneCell']) ?_; rw [World.setRow_alloc_new, Hw16.out])
    refine (HR2.out w16 Hx16.out).mono ?_
    rintro e w17 ⟨N17, nn17, nc17, B17, bn17, bc17, L17, ln17, lc17, rfl, hm17, hb17⟩
    have Hb17 := Lib.hid (Hb16.out.trans (hb17.mono Hb16.out.size)); have Hx17 := Lib.hid (Hx16.out.trans (hb17.mono Hx16.out.size))
    clear hm17 hb17
    obtain ⟨w18, hw18, hq18⟩ : ∃ w', w17.alloc (.cells #[.int .i64 M'.k, .slice N17 nn17 nc17, .slice B17 bn17 bc17, .slice L17 ln17 lc17] 26) = w' ∧ Below w17.heap.size w17 w' := ⟨_, rfl, (Below.refl _ _).alloc (Nat.le_refl _) _⟩
    have Hw18 := Lib.hid hw18; have Hb18 := Lib.hid (Hb17.out.trans (hq18.mono Hb17.out.size)); have Hx18 := Lib.hid (Hx17.out.trans (hq18.mono Hx17.out.size))
    clear hw18 hq18
    go_wp2_with (first
      | (refine wpList_store_row rfl 26 (.tmp 18) (.tmp 74) rfl w17.heap.size #[.int .i64 M'.k, .slice N17 nn17 nc17, .slice B17 bn17 bc17, .slice L17 ln17 lc17] rfl rfl 26 _ (heap_alloc_new _ _) msg_info rfl (by simp [Value.oneCell']) ?_; rw [World.setRow_alloc_new, Hw18.out])
      | (go_at_call 9; refine (awake_any _).mono ?_; rintro e w19 ⟨rfl, hb19⟩))
    go_ret
    exact ⟨rfl, Hb18.out.trans (hb19.mono Hb18.out.size)⟩

theorem walk (m : Msg) (N B L : Option Addr) (nn nc bn bc ln lc : Nat) (a t : Int) (w : World) (h : MsgAt w m N nn nc B bn bc L ln lc) (ha : (Lit.int .i64 a).wf = true) (ht : (Lit.int .u8 t).wf = true) :
    Calls Try.prog 7 #[.agg #[.int .i64 m.k, .slice N nn nc, .slice B bn bc, .slice L ln lc], .int .i64 a, .int .u8 t] w fun e w' => e = .returned (.bool true) ∧ Below w.heap.size w w' := by
  have hb := bounds_i64 ha
  have hu := bounds_u8 ht
  exact walk_main m N B L nn nc bn bc ln lc a t w h hb.1 hb.2 hu.1 (by omega)

/-! ### THE ROW -/
theorem own : ownKnob Try.prog.godebug = none := by kernel_rfl

set_option maxRecDepth 100000 in
theorem lifted (os : Os) (started : os.Started) (H : Type) (enc : TypeId × Value → H) :
    ReturnsInHanded {} Try.checked os 7 .any (Rows.framesShortSpec.pre6 enc Try.prog Try.f7 Rows.framesShortRow.domain false) (Rows.framesShortSpec.post enc Try.prog Try.f7 false true false false) := by
  refine returnsInHanded_of_change (C := Try.checked) own started (by kernel_rfl) Try.func7
    (ChangeSpec.witness6 (enc := enc) (C := Try.checked) false ⟨#[], #[.agg #[.int .i64 0, .slice none 0 0, .slice none 0 0, .slice none 0 0], .int .i64 0, .int .u8 0], []⟩ 8 (by kernel_rfl) (by kernel_rfl) (by kernel_rfl) (by kernel_rfl)) ?_
  intro W base args ds gs before hval0 hW hcnd _
  have hval : ∀ (j : Nat) t v, Try.f7.params[j]? = some t → args[j]? = some v → Value.okWide Try.prog W .any base t v := hval0
  have hW' := hW
  obtain ⟨p, q, hA0, hV, rfl, hfz, hnd⟩ := hW
  have hA : DataW.TrodAll enc Try.prog W 0 (fun _ => true) true Try.f7.params.toList args.toList ds p := hA0
  rw [Try.params7] at hA hval
  obtain ⟨v0, vs0, d0, ds0, p0, q0, hargs, rfl, rfl, h0, r0⟩ := trodAll_cons hA
  obtain ⟨v1, vs1, d1, ds1, p1, q1, rfl, rfl, rfl, h1, r1⟩ := trodAll_cons r0
  obtain ⟨v2, vs2, d2, ds2, p2, q2, rfl, rfl, rfl, h2, r2⟩ := trodAll_cons r1
  obtain ⟨rfl, rfl, rfl⟩ := trodAll_nil r2
  obtain rfl : args = #[v0, v1, v2] := by cases args; simp_all
  obtain ⟨rfl, rfl⟩ := trodVars_none hV
  obtain ⟨m0, N0, nn0, nc0, B0, bn0, bc0, L0, ln0, lc0, rfl, hm0⟩ := open_msg Try.underlying26 rfl rfl rfl rfl rfl rfl rfl rfl rfl rfl rfl Try.underlying3 Try.underlying22 Try.underlying3 (by kernel_rfl) Try.underlying23 Try.underlying5 (by kernel_rfl) Try.underlying24 (by kernel_rfl) (by kernel_rfl) (by kernel_rfl) (by kernel_rfl) (by kernel_rfl) (hval 0 26 v0 rfl rfl) h0
  obtain ⟨a1, rfl, rfl, rfl, w1⟩ := open_int Try.underlying3 (hval 1 3 v1 rfl rfl) h1
  obtain ⟨a2, rfl, rfl, rfl, w2⟩ := open_int Try.underlying5 (hval 2 5 v2 rfl rfl) h2
  refine (walk m0 N0 B0 L0 nn0 nc0 bn0 bc0 ln0 lc0 a1 a2 W hm0 w1 w2).mono fun e W' ⟨he, hg⟩ => ?_
  subst he
  exact ⟨_, rfl, law_post hW' rfl (by kernel_rfl) (by kernel_rfl) (by kernel_rfl) Try.underlying4 rfl rfl rfl hg⟩

theorem over : Rows.framesShortRow.holds Try.pinned (OpenSpec.ofChange Rows.framesShortSpec) :=
  OpenClaim.holds_of_wide 7 Try.f7 rfl rfl rfl rfl rfl rfl rfl ⟨rfl, rfl, rfl, rfl, rfl⟩ rfl rfl rfl rfl rfl (by kernel_rfl) Try.func7 (by kernel_rfl)
    (of_decide_eq_true (by kernel_rfl)) (by unfold Func.isWrapper; first | (rw [if_pos (by decide +kernel)]; kernel_rfl) | (rw [if_neg (by decide +kernel)]; exact ⟨rfl, rfl⟩))
    (fun os started H enc _ => lifted os started H enc)

theorem proved : Rows.FramesShortSaid :=
  over
#print axioms proved

end Go.Proofs.Ytmlmkfooiikcgaa.framesShort
