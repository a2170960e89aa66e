/- For any two slices of bytes, FramesReads returns true: any bytes are read, or refused, as the document says, and so are the same bytes behind their own sum; more than 600 bytes ask the document's example alone. Conditions: none. -/
import Derived.Test.YtmlmkfooiikcgaaRows
import Derived.Test.YtmlmkfooiikcgaaLaw
import Derived.Test.YtmlmkfooiikcgaaFraA
namespace Go.Proofs.Ytmlmkfooiikcgaa.framesReads
open Go.ChangeShapes Go.WideShapes Go.ChangeAt Go.RowKit
set_option linter.unusedVariables false
attribute [local go_sem ↓] ldMsg_eq

theorem walk_awake (A : Option Addr) (n c : Nat) (A1 : Option Addr) (n1 c1 : Nat) (w : World) (h : 600 < n ∨ 600 < n1) (hm : n ≤ maxLen) (hm1 : n1 ≤ maxLen) :
    Calls Try.prog 4 #[.slice A n c, .slice A1 n1 c1] w fun e w' => e = .returned (.bool true) ∧ Below w.heap.size w w' := by
  unfold maxLen at hm hm1
  by_cases h1 : 600 < n
  · go_enter Try.func4, Try.ntmps4
    go_wp2_with (go_at_call 9; refine (awake_any _).mono ?_; rintro e w' ⟨rfl, hb⟩)
    go_ret
    exact ⟨rfl, hb⟩
  · have h2 : 600 < n1 := by omega
    go_enter Try.func4, Try.ntmps4
    go_wp2_with (go_at_call 9; refine (awake_any _).mono ?_; rintro e w' ⟨rfl, hb⟩)
    go_ret
    exact ⟨rfl, hb⟩

/-- one reading, and the message laid behind it -/
def Laid (m : Msg) (w w' : World) (N : Option Addr) (nn nc : Nat) (B : Option Addr) (bn bc : Nat) (L : Option Addr) (ln lc g : Nat) : Prop :=
  MsgAt w' m N nn nc B bn bc L ln lc ∧ Below w.heap.size w w' ∧ w'.heap[g]? = some (.cells #[.int .i64 m.k, .slice N nn nc, .slice B bn bc, .slice L ln lc] 26 (0, 0))

set_option maxRecDepth 100000 in
set_option maxHeartbeats 2000000 in
theorem walk_main (A : Option Addr) (n c : Nat) (bs : List UInt8) (A1 : Option Addr) (n1 c1 : Nat) (bs1 : List UInt8) (w : World) (hn : bs.length = n) (hnc : n ≤ c) (hcm : c ≤ maxLen) (h : Seen w A (bytesV bs))
    (hn1 : bs1.length = n1) (hnc1 : n1 ≤ c1) (hcm1 : c1 ≤ maxLen) (h1 : Seen w A1 (bytesV bs1)) (h6 : n ≤ 600) (h61 : n1 ≤ 600) :
    Calls Try.prog 4 #[.slice A n c, .slice A1 n1 c1] w fun e w' => e = .returned (.bool true) ∧ Below w.heap.size w w' := by
  obtain ⟨M, E, hM⟩ := pair_of (readM bs)
  obtain ⟨M', E', hM'⟩ := pair_of (readM bs1)
  have HA := Lib.hid (fun w' (hb : Below w.heap.size w w') => Read_any A n c bs w' hn (by omega) hnc hcm (h.below hb) hM)
  have HB := Lib.hid (fun w' (hb : Below w.heap.size w w') => RRead_any A n c bs w' hn (by omega) hnc hcm (h.below hb) hM)
  have HC := Lib.hid (fun w' (hb : Below w.heap.size w w') => Read_any A1 n1 c1 bs1 w' hn1 (by omega) hnc1 hcm1 (h1.below hb) hM')
  have HD := Lib.hid (fun w' (hb : Below w.heap.size w w') => RRead_any A1 n1 c1 bs1 w' hn1 (by omega) hnc1 hcm1 (h1.below hb) hM')
  clear hn hcm h hn1 hcm1 h1 hM hM' hnc hnc1
  go_enter Try.func4, Try.ntmps4
  go_wp2_with fail
  refine (HA.out w (Below.refl _ _)).mono ?_
  rintro e w2 ⟨N2, nn2, nc2, B2, bn2, bc2, L2, ln2, lc2, rfl, hm2, hb2⟩
  obtain ⟨w3, hw3, hq3, hh3⟩ : ∃ w', w2.alloc (.cells #[.int .i64 M.k, .slice N2 nn2 nc2, .slice B2 bn2 bc2, .slice L2 ln2 lc2] 26) = w' ∧ Below w2.heap.size w2 w' ∧ w'.heap[w2.heap.size]? = some (.cells #[.int .i64 M.k, .slice N2 nn2 nc2, .slice B2 bn2 bc2, .slice L2 ln2 lc2] 26 (0, 0)) :=
    ⟨_, rfl, (Below.refl _ _).alloc (Nat.le_refl _) _, heap_alloc_new _ _⟩
  have Hw3 := Lib.hid hw3; have Hq3 := Lib.hid hq3; have Hh3 := Lib.hid hh3; have Hm3 := Lib.hid (hm2.below hq3); have Hb3 := Lib.hid (hb2.trans (hq3.mono hb2.size))
  clear hw3 hq3 hh3 hm2 hb2
  go_wp2_with (refine wpList_store_row rfl 26 (.tmp 5) (.tmp 25) rfl w2.heap.size #[.int .i64 M.k, .slice N2 nn2 nc2, .slice B2 bn2 bc2, .slice L2 ln2 lc2] rfl rfl 26 _ (heap_alloc_new _ _) msg_info rfl (by simp [Value.oneCell']) ?_; rw [World.setRow_alloc_new, Hw3.out])
  refine (HB.out w3 Hb3.out).mono ?_
  rintro e w4 ⟨N4, nn4, nc4, B4, bn4, bc4, L4, ln4, lc4, rfl, hm4, hb4'⟩
  have hb4 := Hb3.out.trans (hb4'.mono Hb3.out.size)
  have Hp4 := Lib.hid hb4'
  obtain ⟨w5, hw5, hq5, hh5⟩ : ∃ w', w4.alloc (.cells #[.int .i64 M.k, .slice N4 nn4 nc4, .slice B4 bn4 bc4, .slice L4 ln4 lc4] 26) = w' ∧ Below w4.heap.size w4 w' ∧ w'.heap[w4.heap.size]? = some (.cells #[.int .i64 M.k, .slice N4 nn4 nc4, .slice B4 bn4 bc4, .slice L4 ln4 lc4] 26 (0, 0)) :=
    ⟨_, rfl, (Below.refl _ _).alloc (Nat.le_refl _) _, heap_alloc_new _ _⟩
  have Hw5 := Lib.hid hw5; have Hq5 := Lib.hid hq5; have Hh5 := Lib.hid hh5; have Hm5 := Lib.hid (hm4.below hq5); have Hb5 := Lib.hid (hb4.trans (hq5.mono hb4.size))
  clear hw5 hq5 hh5 hm4 hb4
  go_wp2_with (refine wpList_store_row rfl 26 (.tmp 7) (.tmp 30) rfl w4.heap.size #[.int .i64 M.k, .slice N4 nn4 nc4, .slice B4 bn4 bc4, .slice L4 ln4 lc4] rfl rfl 26 _ (heap_alloc_new _ _) msg_info rfl (by simp [Value.oneCell']) ?_; rw [World.setRow_alloc_new, Hw5.out])
  refine (HC.out w5 Hb5.out).mono ?_
  rintro e w6 ⟨N6, nn6, nc6, B6, bn6, bc6, L6, ln6, lc6, rfl, hm6, hb6'⟩
  have hb6 := Hb5.out.trans (hb6'.mono Hb5.out.size)
  have Hp6 := Lib.hid hb6'
  obtain ⟨w7, hw7, hq7, hh7⟩ : ∃ w', w6.alloc (.cells #[.int .i64 M'.k, .slice N6 nn6 nc6, .slice B6 bn6 bc6, .slice L6 ln6 lc6] 26) = w' ∧ Below w6.heap.size w6 w' ∧ w'.heap[w6.heap.size]? = some (.cells #[.int .i64 M'.k, .slice N6 nn6 nc6, .slice B6 bn6 bc6, .slice L6 ln6 lc6] 26 (0, 0)) :=
    ⟨_, rfl, (Below.refl _ _).alloc (Nat.le_refl _) _, heap_alloc_new _ _⟩
  have Hw7 := Lib.hid hw7; have Hq7 := Lib.hid hq7; have Hh7 := Lib.hid hh7; have Hm7 := Lib.hid (hm6.below hq7); have Hb7 := Lib.hid (hb6.trans (hq7.mono hb6.size))
  clear hw7 hq7 hh7 hm6 hb6
  go_wp2_with (refine wpList_store_row rfl 26 (.tmp 9) (.tmp 35) rfl w6.heap.size #[.int .i64 M'.k, .slice N6 nn6 nc6, .slice B6 bn6 bc6, .slice L6 ln6 lc6] rfl rfl 26 _ (heap_alloc_new _ _) msg_info rfl (by simp [Value.oneCell']) ?_; rw [World.setRow_alloc_new, Hw7.out])
  refine (HD.out w7 Hb7.out).mono ?_
  rintro e w8 ⟨N8, nn8, nc8, B8, bn8, bc8, L8, ln8, lc8, rfl, hm8, hb8'⟩
  have hb8 := Hb7.out.trans (hb8'.mono Hb7.out.size)
  have Hp8 := Lib.hid hb8'
  obtain ⟨w9, hw9, hq9, hh9⟩ : ∃ w', w8.alloc (.cells #[.int .i64 M'.k, .slice N8 nn8 nc8, .slice B8 bn8 bc8, .slice L8 ln8 lc8] 26) = w' ∧ Below w8.heap.size w8 w' ∧ w'.heap[w8.heap.size]? = some (.cells #[.int .i64 M'.k, .slice N8 nn8 nc8, .slice B8 bn8 bc8, .slice L8 ln8 lc8] 26 (0, 0)) :=
    ⟨_, rfl, (Below.refl _ _).alloc (Nat.le_refl _) _, heap_alloc_new _ _⟩
  have Hw9 := Lib.hid hw9; have Hq9 := Lib.hid hq9; have Hh9 := Lib.hid hh9; have Hm9 := Lib.hid (hm8.below hq9); have Hb9 := Lib.hid (hb8.trans (hq9.mono hb8.size))
  clear hw9 hq9 hh9 hm8 hb8
  have G34 := Lib.hid (Hp4.out.trans (Hq5.out.mono Hp4.out.size))
  have G36 := Lib.hid (G34.out.trans (Hp6.out.mono G34.out.size))
  have G37 := Lib.hid (G36.out.trans (Hq7.out.mono G36.out.size))
  have G38 := Lib.hid (G37.out.trans (Hp8.out.mono G37.out.size))
  have G39 := Lib.hid (G38.out.trans (Hq9.out.mono G38.out.size))
  have G56 := Lib.hid (Hp6.out.trans (Hq7.out.mono Hp6.out.size))
  have G58 := Lib.hid (G56.out.trans (Hp8.out.mono G56.out.size))
  have G59 := Lib.hid (G58.out.trans (Hq9.out.mono G58.out.size))
  have G79 := Lib.hid (Hp8.out.trans (Hq9.out.mono Hp8.out.size))
  have k3 := ldMsg_run (row_below Hh3.out G39.out)
  have k5 := ldMsg_run (row_below Hh5.out G59.out)
  have Hm39 := Lib.hid (Hm3.out.below G39.out); have Hm59 := Lib.hid (Hm5.out.below G59.out); have Hm79 := Lib.hid (Hm7.out.below G79.out)
  have Hh79 := Lib.hid (row_below Hh7.out G79.out)
  go_wp2_with (first
    | (refine wpList_store_row rfl 26 (.tmp 11) (.tmp 40) rfl w8.heap.size #[.int .i64 M'.k, .slice N8 nn8 nc8, .slice B8 bn8 bc8, .slice L8 ln8 lc8] rfl rfl 26 _ (heap_alloc_new _ _) msg_info rfl (by simp [Value.oneCell']) ?_; rw [World.setRow_alloc_new, Hw9.out])
    | (go_at_call 16; refine (RSame7_any M' M' N6 B6 L6 N8 B8 L8 nn6 nc6 bn6 bc6 ln6 lc6 nn8 nc8 bn8 bc8 ln8 lc8 w10 (Hm79.out.below Hq10.out) (Hm9.out.below Hq10.out)).mono ?_; rw [sameM_self]; rintro e w11 ⟨rfl, hb11⟩; have Hb11 := Lib.hid (Hb10.out.trans (hb11.mono Hb10.out.size)); clear hb11)
    | (go_at_call 16; refine (RSame7_any M M N2 B2 L2 N4 B4 L4 nn2 nc2 bn2 bc2 ln2 lc2 nn4 nc4 bn4 bc4 ln4 lc4 w9 Hm39.out Hm59.out).mono ?_; rw [sameM_self]; rintro e w10 ⟨rfl, hb10⟩; have Hq10 := Lib.hid hb10; have k7 := ldMsg_run (row_below Hh79.out hb10); have k9 := ldMsg_run (row_below Hh9.out hb10); have Hb10 := Lib.hid (Hb9.out.trans (hb10.mono Hb9.out.size)); clear hb10)
    | (go_at_call 9; refine (awake_any _).mono ?_; rintro e w12 ⟨rfl, hb12⟩))
  go_ret
  exact ⟨rfl, Hb11.out.trans (hb12.mono Hb11.out.size)⟩

theorem walk (A : Option Addr) (n c : Nat) (bs : List UInt8) (A1 : Option Addr) (n1 c1 : Nat) (bs1 : List UInt8) (w : World) (hn : bs.length = n) (hnc : n ≤ c) (hcm : c ≤ maxLen) (h : Seen w A (bytesV bs))
    (hn1 : bs1.length = n1) (hnc1 : n1 ≤ c1) (hcm1 : c1 ≤ maxLen) (h1 : Seen w A1 (bytesV bs1)) :
    Calls Try.prog 4 #[.slice A n c, .slice A1 n1 c1] w fun e w' => e = .returned (.bool true) ∧ Below w.heap.size w w' := by
  by_cases hx : 600 < n ∨ 600 < n1
  · exact walk_awake A n c A1 n1 c1 w hx (by omega) (by omega)
  · exact walk_main A n c bs A1 n1 c1 bs1 w hn hnc hcm h hn1 hnc1 hcm1 h1 (by omega) (by omega)

/-! ### THE ROW -/
theorem own : ownKnob Try.prog.godebug = none := by kernel_rfl

set_option maxRecDepth 100000 in
theorem lifted (os : Os) (started : os.Started) (H : Type) (enc : TypeId × Value → H) :
    ReturnsInHanded {} Try.checked os 4 .any (Rows.framesReadsSpec.pre6 enc Try.prog Try.f4 Rows.framesReadsRow.domain false) (Rows.framesReadsSpec.post enc Try.prog Try.f4 false true false false) := by
  refine returnsInHanded_of_change (C := Try.checked) own started (by kernel_rfl) Try.func4
    (ChangeSpec.witness6 (enc := enc) (C := Try.checked) false ⟨#[], #[.slice none 0 0, .slice none 0 0], []⟩ 8 (by kernel_rfl) (by kernel_rfl) (by kernel_rfl) (by kernel_rfl)) ?_
  intro W base args ds gs before hval0 hW hcnd _
  have hval : ∀ (j : Nat) t v, Try.f4.params[j]? = some t → args[j]? = some v → Value.okWide Try.prog W .any base t v := hval0
  have hW' := hW
  obtain ⟨p, q, hA0, hV, rfl, hfz, hnd⟩ := hW
  have hA : DataW.TrodAll enc Try.prog W 0 (fun _ => true) true Try.f4.params.toList args.toList ds p := hA0
  rw [Try.params4] at hA hval
  obtain ⟨v0, vs0, d0, ds0, p0, q0, hargs, rfl, rfl, h0, r0⟩ := trodAll_cons hA
  obtain ⟨v1, vs1, d1, ds1, p1, q1, rfl, rfl, rfl, h1, r1⟩ := trodAll_cons r0
  obtain ⟨rfl, rfl, rfl⟩ := trodAll_nil r1
  obtain rfl : args = #[v0, v1] := by cases args; simp_all
  obtain ⟨rfl, rfl⟩ := trodVars_none hV
  obtain ⟨A0, n0, c0, bs0, rfl, hn0, hnc0, hcm0, hsee0⟩ := open_bytes Try.underlying23 Try.underlying5 (by kernel_rfl) (hval 0 23 v0 rfl rfl) h0
  obtain ⟨A1, n1, c1, bs1, rfl, hn1, hnc1, hcm1, hsee1⟩ := open_bytes Try.underlying23 Try.underlying5 (by kernel_rfl) (hval 1 23 v1 rfl rfl) h1
  refine (walk A0 n0 c0 bs0 A1 n1 c1 bs1 W hn0 hnc0 hcm0 hsee0 hn1 hnc1 hcm1 hsee1).mono fun e W' ⟨he, hg⟩ => ?_
  subst he
  exact ⟨_, rfl, law_post hW' rfl (by kernel_rfl) (by kernel_rfl) (by kernel_rfl) Try.underlying4 rfl rfl rfl hg⟩

theorem over : Rows.framesReadsRow.holds Try.pinned (OpenSpec.ofChange Rows.framesReadsSpec) :=
  OpenClaim.holds_of_wide 4 Try.f4 rfl rfl rfl rfl rfl rfl rfl ⟨rfl, rfl, rfl, rfl, rfl⟩ rfl rfl rfl rfl rfl (by kernel_rfl) Try.func4 (by kernel_rfl)
    (of_decide_eq_true (by kernel_rfl)) (by unfold Func.isWrapper; first | (rw [if_pos (by decide +kernel)]; kernel_rfl) | (rw [if_neg (by decide +kernel)]; exact ⟨rfl, rfl⟩))
    (fun os started H enc _ => lifted os started H enc)

theorem proved : Rows.FramesReadsSaid :=
  over
#print axioms proved

end Go.Proofs.Ytmlmkfooiikcgaa.framesReads
