/-
  RaftNews: which nodes there are is what the document says, and a fresh one follows, in the term 0, with its members; it holds for every input (up to 20 members, else the example), and the arguments stay as they were. No condition.
-/
import Derived.Test.YtdlgihgdpdiglaaGreatJRafD
import Derived.Test.YtdlgihgdpdiglaaGreatQuoRef
import Derived.Test.YtdlgihgdpdiglaaGreatJQuoA
import Derived.Test.YtdlgihgdpdiglaaGreatJWords
import Derived.Test.YtdlgihgdpdiglaaGreatRows
import Derived.Test.YtdlgihgdpdiglaaGreatChecked
namespace Go.Proofs.YtdlgihgdpdiglaaGreat.RaftNews
open Go.ChangeShapes Go.WideShapes Go.ChangeAt Go.RowKit
set_option linter.unusedVariables false

attribute [local go_sem ↓] stSta_eq
set_option maxRecDepth 100000 in
set_option maxHeartbeats 4000000 in
theorem walkSome (A : Option Addr) (n c : Nat) (us : List Int) (id : Int) (w : World) (hn : us.length = n) (hnc : n ≤ c) (hl : n ≤ 20) (hs : Seen w A (numsV us)) (i0 : 0 ≤ id) (i1 : id ≤ 15) (hr : quo.RightQ us) :
    Calls Tryz.prog 3 #[.int .i64 id, .slice A n c] w fun e w' => e = .returned (.bool true) ∧ Below w.heap.size w w' := by
  obtain ⟨B, hB⟩ : ∃ B, w.heap.size = B := ⟨_, rfl⟩
  have HB := Lib.hid hB
  have Hm := Lib.hid (show IntsR w ⟨A, n, c⟩ us from ⟨hn, hnc, hs⟩)
  have l0 : ¬ (20 : Int) < (n : Int) := by omega
  have hml : n ≤ 1000 := by omega
  have hnM : n ≤ maxLen := by unfold maxLen; omega
  have Hus := Lib.hid (show quo.RightQ us ∨ us = [] from .inl hr)
  have Hr := Lib.hid (decide_eq_true hr)
  have hz : ¬ (n : Int) = 0 := by have := hr.1.1; omega
  have hz2 : ¬ n = 0 := by omega
  clear hn hs hB hr
  go_enter Tryz.func3, Tryz.ntmps3
  go_wp2_with fail
  refine (New_any 64 w (by omega) (by omega)).mono ?_
  rw [HB.out]
  rintro e w1 ⟨g, s, rfl, hd, hb⟩
  have Hd1 := Lib.hid hd; have Hb1 := Lib.hid hb
  clear hd hb
  have hB1 : B ≤ w1.heap.size := by have := Hb1.out.size; have := HB.out; omega
  go_wp2_with fail
  refine (VOpen_any B g s none (Dv.new 64) (Vt.new 64) w1 Hd1.out (DevOk.new (by omega) (by omega)) (Vt.new_ok (by omega) (by omega))).mono ?_
  rintro e w2 ⟨v, F, rfl, hv, hiv, hF, ht⟩
  have Hv2 := Lib.hid hiv
  have Hb2 := Lib.hid (Hb1.out.trans (ht.below (fun k hk => footD_lo Hd1.out hk) hB1))
  have hm2 : IntsR w2 ⟨A, n, c⟩ us := Hm.out.below (by rw [HB.out]; exact Hb2.out)
  have KN := Lib.hid (NNew_yes B v g s F (Vt.new 64) id ⟨A, n, c⟩ us w2 ⟨i0, i1⟩ hiv rfl (by show 16 * 0 + 16 ≤ 64 - 2 * (64 / 4); omega) hm2 Hus.out hml)
  clear hv hiv ht hF hm2
  have KR := Lib.hid (fun W (hb : Below B w W) => quo.RRight_any A n c us W Hm.out.len hnM (Hm.out.see.below (by rw [HB.out]; exact hb)))
  rw [Hr.out] at KR
  go_wp2_with fail
  refine KN.out.mono ?_
  rintro e w3 hn3
  obtain ⟨n0, a, rfl, hn3, hb3⟩ := made_low Hv2.out Hb2.out hn3
  obtain ⟨N, hNe⟩ : ∃ N, N00 id us ((Vt.new 64).noted (chgS us)) = N := ⟨_, rfl⟩
  have f1 : N.rf = 0 := by rw [← hNe]; rfl
  have f2 : N.role = 0 := by rw [← hNe]; rfl
  have f3 : N.mem = us := by rw [← hNe]; rfl
  have f4 : N.lead = -1 := by rw [← hNe]; rfl
  have f5 : N.x = [] := by rw [← hNe]; rfl
  have f6 : N.si = 0 := by rw [← hNe]; rfl
  have f7 : N.te = 0 := by rw [← hNe]; rfl
  have f8 : N.com = 0 := by rw [← hNe]; rfl
  have f9 : N.told = 0 := by rw [← hNe]; rfl
  have f10 : N.unt = false := by rw [← hNe]; rfl
  rw [hNe] at hn3
  have e0 : N.si + (N.x.length : Int) = 0 := by rw [f6, f5]; rfl
  have Hn3 := Lib.hid hn3; have Hb3 := Lib.hid hb3
  have F5 := Lib.hid (show 0 ≤ N.si ∧ N.si ≤ 1099511627776 ∧ N.x.length ≤ 1000000 ∧ N.mem.length ≤ 1000000 from ⟨by omega, by omega, by rw [f5]; show 0 ≤ 1000000; omega, by rw [f3, Hm.out.len]; show n ≤ 1000000; omega⟩)
  have hno : ¬ ((N.c a).role = 2 ∧ (N.c a).rf = 0) := by show ¬ (N.role = 2 ∧ _); rw [f2]; omega
  have F6 := Lib.hid (show N.rf = 0 ∧ N.si = 0 ∧ N.told = ((0 : Nat) : Int) ∧ N.com = ((0 + 0 : Nat) : Int) ∧ N.x.length ≤ 90000 ∧ 0 + 0 = N.x.length ∧ N.unt = false from ⟨f1, f6, f9, f8, by rw [f5]; show 0 ≤ 90000; omega, by rw [f5]; rfl, f10⟩)
  have Hno := Lib.hid hno
  have hx0 : (N.x.drop 0).take 0 = [] := by rw [List.take_zero]
  clear hn3 hb3 hNe hno
  have KR4 := Lib.hid (KR.out w3 Hb3.out)
  go_wp2_with fail
  refine KR4.out.mono ?_
  rintro e w4 ⟨rfl, hb4⟩
  have Hb4 := Lib.hid (Hb3.out.trans (hb4.mono Hn3.out.size)); have Hn4 := Lib.hid (Hn3.out.below hb4)
  clear hb4
  go_wp2_with fail
  refine (NNew_nil 0 none 0 0 w4).mono ?_
  rintro e w5 ⟨rfl, hb5⟩
  have Hb5 := Lib.hid (Hb4.out.trans (hb5.mono Hn4.out.size))
  have Hn5 := Lib.hid (Hn4.out.below hb5)
  clear hb5
  have KS := Lib.hid (NStatus B n0 a N w5 Hn5.out F5.out.1 F5.out.2.1 F5.out.2.2.1 F5.out.2.2.2)
  unfold StatusRet at KS
  try simp only at KS
  rw [f7, f2, f4, f8, e0, f3] at KS
  clear f1 f2 f3 f4 f5 f6 f7 f8 f9 f10 e0
  have go : ∀ (s6 : Sl) (w5 w6 : World), Below B w w5 → IsA w5 B n0 a N → w6.ownsRow w5.heap.size 3 1 s6.v s6.n (numsV us) → Below w5.heap.size w5 w6 → ∃ w7 w8, w6.alloc (.cells #[.int .i64 0, .int .i64 0, .int .i64 0, .int .i64 0, .int .i64 0, .slice none 0 0] 35) = w7 ∧ (stSta (.pointer (some ⟨w6.heap.size, 0, none⟩)) (.agg #[.int .i64 0, .int .i64 0, .int .i64 (-1), .int .i64 0, .int .i64 0, .slice s6.A s6.n s6.c])).run Tryz.prog w7 = .ok () w8 ∧ w8.heap[w6.heap.size]? = some (.cells #[.int .i64 0, .int .i64 0, .int .i64 (-1), .int .i64 0, .int .i64 0, .slice s6.A s6.n s6.c] 35 (0, 0)) ∧ Below B w w8 ∧ IsA w8 B n0 a N ∧ Seen w8 s6.A (numsV us) ∧ us.length = s6.n := by
    intro s6 w5 w6 hb5 hn5 hown6 hb6
    obtain ⟨w7, hw7⟩ : ∃ w7, w6.alloc (.cells #[.int .i64 0, .int .i64 0, .int .i64 0, .int .i64 0, .int .i64 0, .slice none 0 0] 35) = w7 := ⟨_, rfl⟩
    have hb7 : Below w6.heap.size w6 w7 := by rw [← hw7]; exact box_below _ _
    have hg7 : w7.heap[w6.heap.size]? = some (.cells #[.int .i64 0, .int .i64 0, .int .i64 0, .int .i64 0, .int .i64 0, .slice none 0 0] 35 (0, 0)) := by rw [← hw7]; exact heap_alloc_new _ _
    obtain ⟨w8, hst, hg8, ht8⟩ := st_row (T := 35) (new := #[.int .i64 0, .int .i64 0, .int .i64 (-1), .int .i64 0, .int .i64 0, .slice s6.A s6.n s6.c]) hg7 rfl status_info (by simp [Value.oneCell'])
    rw [stSta_eq] at hst
    have hb68 : Below w6.heap.size w6 w8 := hb7.trans (ht8.below (fun k e => by omega) hb7.size)
    have hb58 := hb6.trans (hb68.mono hb6.size)
    refine ⟨w7, w8, hw7, hst, hg8, hb5.trans (hb58.mono hn5.size), hn5.below hb58, (Seen.of_own (A := s6.A) (n := s6.n) (c := s6.c) hown6).below hb68, ?_⟩
    have := hown6.1
    rw [numsV_length] at this
    omega
  have Go := Lib.hid go
  clear go
  go_upto_region 15 with (go_at_call 12; refine KS.out.mono ?_; rintro e w6 ⟨s6, rfl, hown6, hb6⟩; obtain ⟨w7, w8, hw7, hst, hg8, hb8, hn8, hs8, hl8⟩ := Go.out s6 w5 w6 Hb5.out Hn5.out hown6 hb6; have Hg8 := Lib.hid hg8; have Hb8 := Lib.hid hb8; have Hn8 := Lib.hid hn8; have Hs8 := Lib.hid hs8; have Hl8 := Lib.hid hl8; clear hown6 hb6 hg8 hb8 hn8 hs8 hl8)
  have KP := Lib.hid (NPropose_no n0 (N.c a) none 0 0 w8 Hn8.out.row Hno.out)
  have KX := Lib.hid (NRestored_no n0 (N.c a) w8 Hn8.out.row F6.out.1 F6.out.2.2.2.2.2.2)
  go_upto_region 17 with (first
    | (go_at_call 13; refine KP.out.mono ?_; rintro e w9 ⟨rfl, rfl⟩)
    | (go_at_call 14; refine KX.out.mono ?_; rintro e w9 ⟨rfl, rfl⟩))
  have d0 : w8.cell? ⟨w6.heap.size, 0, none⟩ = some (.int .i64 0) := row_cell Hg8.out 0
  have d1 : w8.cell? ⟨w6.heap.size, 1, none⟩ = some (.int .i64 0) := row_cell Hg8.out 1
  have d2 : w8.cell? ⟨w6.heap.size, 2, none⟩ = some (.int .i64 (-1)) := row_cell Hg8.out 2
  have d3 : w8.cell? ⟨w6.heap.size, 3, none⟩ = some (.int .i64 0) := row_cell Hg8.out 3
  have d4 : w8.cell? ⟨w6.heap.size, 4, none⟩ = some (.int .i64 0) := row_cell Hg8.out 4
  have d5 : w8.cell? ⟨w6.heap.size, 5, none⟩ = some (.slice s6.A s6.n s6.c) := row_cell Hg8.out 5
  have KI := Lib.hid (SameInts_any s6.A A s6.n n s6.c c us us w8 Hl8.out Hm.out.len Hs8.out (Hm.out.see.below (by rw [HB.out]; exact Hb8.out)) (by rw [← Hl8.out, Hm.out.len]; exact hnM))
  rw [decide_eq_true (rfl : us = us)] at KI
  clear KP KX
  go_wp2_with fail
  refine KI.out.mono ?_
  rintro e w9 ⟨rfl, hb9⟩
  have Hb9 := Lib.hid (Hb8.out.trans (hb9.mono Hn8.out.size)); have Hn9 := Lib.hid (Hn8.out.below hb9)
  clear hb9 d0 d1 d2 d3 d4 d5
  have KC := Lib.hid (NChange_no n0 (N.c a) true 3 w9 Hn9.out.row Hno.out)
  have KA := Lib.hid (NApplied_log B n0 0 0 a N w9 Hn9.out F6.out.1 F6.out.2.1 F6.out.2.2.1 F6.out.2.2.2.1 F6.out.2.2.2.2.1 F6.out.2.2.2.2.2.1)
  rw [hx0] at KA
  go_wp2_with (go_at_call 16; refine KC.out.mono ?_; rintro e w10 ⟨rfl, rfl⟩)
  refine KA.out.mono ?_
  rintro e w10 ⟨⟨A5, n5, c5⟩, Z, rfl, hz1, hz2, -, -, hN10, ht10⟩
  obtain rfl : Z = [] := List.map_eq_nil_iff.1 hz2
  obtain rfl : n5 = 0 := hz1
  have Hb10 := Lib.hid (Hb9.out.trans (ht10.below (fun k hk => by rw [hk]; exact Hn9.out.lo) Hn9.out.size))
  have hs10 : B ≤ w10.heap.size := hN10.size
  rw [show Sl.v ⟨A5, 0, c5⟩ = .slice A5 0 c5 from rfl]
  clear hz2 hN10 ht10
  go_wp2_with fail
  refine (awake_any w10).mono ?_
  rintro e w11 ⟨rfl, hb11⟩
  have Hb11 := Lib.hid (Hb10.out.trans (hb11.mono hs10))
  clear hb11
  go_wp2
  go_ret
  exact ⟨rfl, by rw [HB.out]; exact Hb11.out⟩
attribute [local go_sem ↓] stSta_eq
set_option maxRecDepth 100000 in
set_option maxHeartbeats 4000000 in
theorem walkNil (A : Option Addr) (n c : Nat) (us : List Int) (id : Int) (w : World) (hn : us.length = n) (hnc : n ≤ c) (hl : n ≤ 20) (hs : Seen w A (numsV us)) (i0 : 0 ≤ id) (i1 : id ≤ 15) (h0 : n = 0) :
    Calls Tryz.prog 3 #[.int .i64 id, .slice A n c] w fun e w' => e = .returned (.bool true) ∧ Below w.heap.size w w' := by
  obtain ⟨B, hB⟩ : ∃ B, w.heap.size = B := ⟨_, rfl⟩
  have HB := Lib.hid hB
  have Hm := Lib.hid (show IntsR w ⟨A, n, c⟩ us from ⟨hn, hnc, hs⟩)
  have l0 : ¬ (20 : Int) < (n : Int) := by omega
  have hml : n ≤ 1000 := by omega
  have hnM : n ≤ maxLen := by unfold maxLen; omega
  have Hus := Lib.hid (show quo.RightQ us ∨ us = [] from .inr (List.length_eq_zero_iff.1 (by omega)))
  have hz : ((n : Int) == 0) = true := by simp [h0]
  clear hn hs hB h0
  go_enter Tryz.func3, Tryz.ntmps3
  go_wp2_with fail
  refine (New_any 64 w (by omega) (by omega)).mono ?_
  rw [HB.out]
  rintro e w1 ⟨g, s, rfl, hd, hb⟩
  have Hd1 := Lib.hid hd; have Hb1 := Lib.hid hb
  clear hd hb
  have hB1 : B ≤ w1.heap.size := by have := Hb1.out.size; have := HB.out; omega
  go_wp2_with fail
  refine (VOpen_any B g s none (Dv.new 64) (Vt.new 64) w1 Hd1.out (DevOk.new (by omega) (by omega)) (Vt.new_ok (by omega) (by omega))).mono ?_
  rintro e w2 ⟨v, F, rfl, hv, hiv, hF, ht⟩
  have Hv2 := Lib.hid hiv
  have Hb2 := Lib.hid (Hb1.out.trans (ht.below (fun k hk => footD_lo Hd1.out hk) hB1))
  have hm2 : IntsR w2 ⟨A, n, c⟩ us := Hm.out.below (by rw [HB.out]; exact Hb2.out)
  have KN := Lib.hid (NNew_yes B v g s F (Vt.new 64) id ⟨A, n, c⟩ us w2 ⟨i0, i1⟩ hiv rfl (by show 16 * 0 + 16 ≤ 64 - 2 * (64 / 4); omega) hm2 Hus.out hml)
  clear hv hiv ht hF hm2
  go_wp2_with fail
  refine KN.out.mono ?_
  rintro e w3 hn3
  obtain ⟨n0, a, rfl, hn3, hb3⟩ := made_low Hv2.out Hb2.out hn3
  obtain ⟨N, hNe⟩ : ∃ N, N00 id us ((Vt.new 64).noted (chgS us)) = N := ⟨_, rfl⟩
  have f1 : N.rf = 0 := by rw [← hNe]; rfl
  have f2 : N.role = 0 := by rw [← hNe]; rfl
  have f3 : N.mem = us := by rw [← hNe]; rfl
  have f4 : N.lead = -1 := by rw [← hNe]; rfl
  have f5 : N.x = [] := by rw [← hNe]; rfl
  have f6 : N.si = 0 := by rw [← hNe]; rfl
  have f7 : N.te = 0 := by rw [← hNe]; rfl
  have f8 : N.com = 0 := by rw [← hNe]; rfl
  have f9 : N.told = 0 := by rw [← hNe]; rfl
  have f10 : N.unt = false := by rw [← hNe]; rfl
  rw [hNe] at hn3
  have e0 : N.si + (N.x.length : Int) = 0 := by rw [f6, f5]; rfl
  have Hn3 := Lib.hid hn3; have Hb3 := Lib.hid hb3
  have F5 := Lib.hid (show 0 ≤ N.si ∧ N.si ≤ 1099511627776 ∧ N.x.length ≤ 1000000 ∧ N.mem.length ≤ 1000000 from ⟨by omega, by omega, by rw [f5]; show 0 ≤ 1000000; omega, by rw [f3, Hm.out.len]; show n ≤ 1000000; omega⟩)
  have hno : ¬ ((N.c a).role = 2 ∧ (N.c a).rf = 0) := by show ¬ (N.role = 2 ∧ _); rw [f2]; omega
  have F6 := Lib.hid (show N.rf = 0 ∧ N.si = 0 ∧ N.told = ((0 : Nat) : Int) ∧ N.com = ((0 + 0 : Nat) : Int) ∧ N.x.length ≤ 90000 ∧ 0 + 0 = N.x.length ∧ N.unt = false from ⟨f1, f6, f9, f8, by rw [f5]; show 0 ≤ 90000; omega, by rw [f5]; rfl, f10⟩)
  have Hno := Lib.hid hno
  have hx0 : (N.x.drop 0).take 0 = [] := by rw [List.take_zero]
  clear hn3 hb3 hNe hno
  have Hb4 := Hb3; have Hn4 := Hn3
  go_wp2_with fail
  refine (NNew_nil 0 none 0 0 w3).mono ?_
  rintro e w5 ⟨rfl, hb5⟩
  have Hb5 := Lib.hid (Hb4.out.trans (hb5.mono Hn4.out.size))
  have Hn5 := Lib.hid (Hn4.out.below hb5)
  clear hb5
  have KS := Lib.hid (NStatus B n0 a N w5 Hn5.out F5.out.1 F5.out.2.1 F5.out.2.2.1 F5.out.2.2.2)
  unfold StatusRet at KS
  try simp only at KS
  rw [f7, f2, f4, f8, e0, f3] at KS
  clear f1 f2 f3 f4 f5 f6 f7 f8 f9 f10 e0
  have go : ∀ (s6 : Sl) (w5 w6 : World), Below B w w5 → IsA w5 B n0 a N → w6.ownsRow w5.heap.size 3 1 s6.v s6.n (numsV us) → Below w5.heap.size w5 w6 → ∃ w7 w8, w6.alloc (.cells #[.int .i64 0, .int .i64 0, .int .i64 0, .int .i64 0, .int .i64 0, .slice none 0 0] 35) = w7 ∧ (stSta (.pointer (some ⟨w6.heap.size, 0, none⟩)) (.agg #[.int .i64 0, .int .i64 0, .int .i64 (-1), .int .i64 0, .int .i64 0, .slice s6.A s6.n s6.c])).run Tryz.prog w7 = .ok () w8 ∧ w8.heap[w6.heap.size]? = some (.cells #[.int .i64 0, .int .i64 0, .int .i64 (-1), .int .i64 0, .int .i64 0, .slice s6.A s6.n s6.c] 35 (0, 0)) ∧ Below B w w8 ∧ IsA w8 B n0 a N ∧ Seen w8 s6.A (numsV us) ∧ us.length = s6.n := by
    intro s6 w5 w6 hb5 hn5 hown6 hb6
    obtain ⟨w7, hw7⟩ : ∃ w7, w6.alloc (.cells #[.int .i64 0, .int .i64 0, .int .i64 0, .int .i64 0, .int .i64 0, .slice none 0 0] 35) = w7 := ⟨_, rfl⟩
    have hb7 : Below w6.heap.size w6 w7 := by rw [← hw7]; exact box_below _ _
    have hg7 : w7.heap[w6.heap.size]? = some (.cells #[.int .i64 0, .int .i64 0, .int .i64 0, .int .i64 0, .int .i64 0, .slice none 0 0] 35 (0, 0)) := by rw [← hw7]; exact heap_alloc_new _ _
    obtain ⟨w8, hst, hg8, ht8⟩ := st_row (T := 35) (new := #[.int .i64 0, .int .i64 0, .int .i64 (-1), .int .i64 0, .int .i64 0, .slice s6.A s6.n s6.c]) hg7 rfl status_info (by simp [Value.oneCell'])
    rw [stSta_eq] at hst
    have hb68 : Below w6.heap.size w6 w8 := hb7.trans (ht8.below (fun k e => by omega) hb7.size)
    have hb58 := hb6.trans (hb68.mono hb6.size)
    refine ⟨w7, w8, hw7, hst, hg8, hb5.trans (hb58.mono hn5.size), hn5.below hb58, (Seen.of_own (A := s6.A) (n := s6.n) (c := s6.c) hown6).below hb68, ?_⟩
    have := hown6.1
    rw [numsV_length] at this
    omega
  have Go := Lib.hid go
  clear go
  go_upto_region 15 with (go_at_call 12; refine KS.out.mono ?_; rintro e w6 ⟨s6, rfl, hown6, hb6⟩; obtain ⟨w7, w8, hw7, hst, hg8, hb8, hn8, hs8, hl8⟩ := Go.out s6 w5 w6 Hb5.out Hn5.out hown6 hb6; have Hg8 := Lib.hid hg8; have Hb8 := Lib.hid hb8; have Hn8 := Lib.hid hn8; have Hs8 := Lib.hid hs8; have Hl8 := Lib.hid hl8; clear hown6 hb6 hg8 hb8 hn8 hs8 hl8)
  have KP := Lib.hid (NPropose_no n0 (N.c a) none 0 0 w8 Hn8.out.row Hno.out)
  have KX := Lib.hid (NRestored_no n0 (N.c a) w8 Hn8.out.row F6.out.1 F6.out.2.2.2.2.2.2)
  go_upto_region 17 with (first
    | (go_at_call 13; refine KP.out.mono ?_; rintro e w9 ⟨rfl, rfl⟩)
    | (go_at_call 14; refine KX.out.mono ?_; rintro e w9 ⟨rfl, rfl⟩))
  have d0 : w8.cell? ⟨w6.heap.size, 0, none⟩ = some (.int .i64 0) := row_cell Hg8.out 0
  have d1 : w8.cell? ⟨w6.heap.size, 1, none⟩ = some (.int .i64 0) := row_cell Hg8.out 1
  have d2 : w8.cell? ⟨w6.heap.size, 2, none⟩ = some (.int .i64 (-1)) := row_cell Hg8.out 2
  have d3 : w8.cell? ⟨w6.heap.size, 3, none⟩ = some (.int .i64 0) := row_cell Hg8.out 3
  have d4 : w8.cell? ⟨w6.heap.size, 4, none⟩ = some (.int .i64 0) := row_cell Hg8.out 4
  have d5 : w8.cell? ⟨w6.heap.size, 5, none⟩ = some (.slice s6.A s6.n s6.c) := row_cell Hg8.out 5
  have KI := Lib.hid (SameInts_any s6.A A s6.n n s6.c c us us w8 Hl8.out Hm.out.len Hs8.out (Hm.out.see.below (by rw [HB.out]; exact Hb8.out)) (by rw [← Hl8.out, Hm.out.len]; exact hnM))
  rw [decide_eq_true (rfl : us = us)] at KI
  clear KP KX
  go_wp2_with fail
  refine KI.out.mono ?_
  rintro e w9 ⟨rfl, hb9⟩
  have Hb9 := Lib.hid (Hb8.out.trans (hb9.mono Hn8.out.size)); have Hn9 := Lib.hid (Hn8.out.below hb9)
  clear hb9 d0 d1 d2 d3 d4 d5
  have KC := Lib.hid (NChange_no n0 (N.c a) true 3 w9 Hn9.out.row Hno.out)
  have KA := Lib.hid (NApplied_log B n0 0 0 a N w9 Hn9.out F6.out.1 F6.out.2.1 F6.out.2.2.1 F6.out.2.2.2.1 F6.out.2.2.2.2.1 F6.out.2.2.2.2.2.1)
  rw [hx0] at KA
  go_wp2_with (go_at_call 16; refine KC.out.mono ?_; rintro e w10 ⟨rfl, rfl⟩)
  refine KA.out.mono ?_
  rintro e w10 ⟨⟨A5, n5, c5⟩, Z, rfl, hz1, hz2, -, -, hN10, ht10⟩
  obtain rfl : Z = [] := List.map_eq_nil_iff.1 hz2
  obtain rfl : n5 = 0 := hz1
  have Hb10 := Lib.hid (Hb9.out.trans (ht10.below (fun k hk => by rw [hk]; exact Hn9.out.lo) Hn9.out.size))
  have hs10 : B ≤ w10.heap.size := hN10.size
  rw [show Sl.v ⟨A5, 0, c5⟩ = .slice A5 0 c5 from rfl]
  clear hz2 hN10 ht10
  go_wp2_with fail
  refine (awake_any w10).mono ?_
  rintro e w11 ⟨rfl, hb11⟩
  have Hb11 := Lib.hid (Hb10.out.trans (hb11.mono hs10))
  clear hb11
  go_wp2
  go_ret
  exact ⟨rfl, by rw [HB.out]; exact Hb11.out⟩
attribute [local go_sem ↓] stSta_eq
set_option maxRecDepth 100000 in
set_option maxHeartbeats 4000000 in
theorem walkNeg (A : Option Addr) (n c : Nat) (us : List Int) (id : Int) (w : World) (hn : us.length = n) (hnc : n ≤ c) (hl : n ≤ 20) (hs : Seen w A (numsV us)) (i0 : id < 0) :
    Calls Tryz.prog 3 #[.int .i64 id, .slice A n c] w fun e w' => e = .returned (.bool true) ∧ Below w.heap.size w w' := by
  obtain ⟨B, hB⟩ : ∃ B, w.heap.size = B := ⟨_, rfl⟩
  have HB := Lib.hid hB
  have Hm := Lib.hid (show IntsR w ⟨A, n, c⟩ us from ⟨hn, hnc, hs⟩)
  have l0 : ¬ (20 : Int) < (n : Int) := by omega
  have hml : n ≤ 1000 := by omega
  have hnM : n ≤ maxLen := by unfold maxLen; omega
  have Hno := Lib.hid (show ¬ ((0 ≤ id ∧ id ≤ 15) ∧ (us = [] ∨ quo.RightQ us)) from fun h => by omega)
  have i1 : ¬ 0 ≤ id := by omega
  clear hn hs hB
  go_enter Tryz.func3, Tryz.ntmps3
  go_wp2_with fail
  refine (New_any 64 w (by omega) (by omega)).mono ?_
  rw [HB.out]
  rintro e w1 ⟨g, s, rfl, hd, hb⟩
  have Hd1 := Lib.hid hd; have Hb1 := Lib.hid hb
  clear hd hb
  have hB1 : B ≤ w1.heap.size := by have := Hb1.out.size; have := HB.out; omega
  go_wp2_with fail
  refine (VOpen_any B g s none (Dv.new 64) (Vt.new 64) w1 Hd1.out (DevOk.new (by omega) (by omega)) (Vt.new_ok (by omega) (by omega))).mono ?_
  rintro e w2 ⟨v, F, rfl, hv, hiv, hF, ht⟩
  have Hv2 := Lib.hid hiv
  have Hb2 := Lib.hid (Hb1.out.trans (ht.below (fun k hk => footD_lo Hd1.out hk) hB1))
  have hm2 : IntsR w2 ⟨A, n, c⟩ us := Hm.out.below (by rw [HB.out]; exact Hb2.out)
  have KN := Lib.hid (NNew_no id v ⟨A, n, c⟩ us w2 hm2 (by show n ≤ 1000000; omega) Hno.out)
  have hB2 := hiv.size
  clear hv hiv ht hF hm2
  go_wp2_with fail
  refine KN.out.mono ?_
  rintro e w3 ⟨rfl, hb3⟩
  have Hb3 := Lib.hid (Hb2.out.trans (hb3.mono hB2))
  have hB3 : B ≤ w3.heap.size := Nat.le_trans hB2 hb3.size
  clear hb3
  have Hb4 := Hb3; have hB4 := hB3
  go_wp2_with fail
  refine (NNew_nil 0 none 0 0 w3).mono ?_
  rintro e w5 ⟨rfl, hb5⟩
  have Hb5 := Lib.hid (Hb4.out.trans (hb5.mono hB4))
  have hB5 : B ≤ w5.heap.size := Nat.le_trans hB4 hb5.size
  clear hb5
  go_wp2_with fail
  refine (awake_any w5).mono ?_
  rintro e w6 ⟨rfl, hb6⟩
  have Hb6 := Lib.hid (Hb5.out.trans (hb6.mono hB5))
  clear hb6
  go_wp2
  go_ret
  exact ⟨rfl, by rw [HB.out]; exact Hb6.out⟩
attribute [local go_sem ↓] stSta_eq
set_option maxRecDepth 100000 in
set_option maxHeartbeats 4000000 in
theorem walkBig (A : Option Addr) (n c : Nat) (us : List Int) (id : Int) (w : World) (hn : us.length = n) (hnc : n ≤ c) (hl : n ≤ 20) (hs : Seen w A (numsV us)) (i1 : 15 < id) :
    Calls Tryz.prog 3 #[.int .i64 id, .slice A n c] w fun e w' => e = .returned (.bool true) ∧ Below w.heap.size w w' := by
  obtain ⟨B, hB⟩ : ∃ B, w.heap.size = B := ⟨_, rfl⟩
  have HB := Lib.hid hB
  have Hm := Lib.hid (show IntsR w ⟨A, n, c⟩ us from ⟨hn, hnc, hs⟩)
  have l0 : ¬ (20 : Int) < (n : Int) := by omega
  have hml : n ≤ 1000 := by omega
  have hnM : n ≤ maxLen := by unfold maxLen; omega
  have Hno := Lib.hid (show ¬ ((0 ≤ id ∧ id ≤ 15) ∧ (us = [] ∨ quo.RightQ us)) from fun h => by omega)
  have i0 : 0 ≤ id := by omega
  have i2 : ¬ id ≤ 15 := by omega
  clear hn hs hB
  go_enter Tryz.func3, Tryz.ntmps3
  go_wp2_with fail
  refine (New_any 64 w (by omega) (by omega)).mono ?_
  rw [HB.out]
  rintro e w1 ⟨g, s, rfl, hd, hb⟩
  have Hd1 := Lib.hid hd; have Hb1 := Lib.hid hb
  clear hd hb
  have hB1 : B ≤ w1.heap.size := by have := Hb1.out.size; have := HB.out; omega
  go_wp2_with fail
  refine (VOpen_any B g s none (Dv.new 64) (Vt.new 64) w1 Hd1.out (DevOk.new (by omega) (by omega)) (Vt.new_ok (by omega) (by omega))).mono ?_
  rintro e w2 ⟨v, F, rfl, hv, hiv, hF, ht⟩
  have Hv2 := Lib.hid hiv
  have Hb2 := Lib.hid (Hb1.out.trans (ht.below (fun k hk => footD_lo Hd1.out hk) hB1))
  have hm2 : IntsR w2 ⟨A, n, c⟩ us := Hm.out.below (by rw [HB.out]; exact Hb2.out)
  have KN := Lib.hid (NNew_no id v ⟨A, n, c⟩ us w2 hm2 (by show n ≤ 1000000; omega) Hno.out)
  have hB2 := hiv.size
  clear hv hiv ht hF hm2
  go_wp2_with fail
  refine KN.out.mono ?_
  rintro e w3 ⟨rfl, hb3⟩
  have Hb3 := Lib.hid (Hb2.out.trans (hb3.mono hB2))
  have hB3 : B ≤ w3.heap.size := Nat.le_trans hB2 hb3.size
  clear hb3
  have Hb4 := Hb3; have hB4 := hB3
  go_wp2_with fail
  refine (NNew_nil 0 none 0 0 w3).mono ?_
  rintro e w5 ⟨rfl, hb5⟩
  have Hb5 := Lib.hid (Hb4.out.trans (hb5.mono hB4))
  have hB5 : B ≤ w5.heap.size := Nat.le_trans hB4 hb5.size
  clear hb5
  go_wp2_with fail
  refine (awake_any w5).mono ?_
  rintro e w6 ⟨rfl, hb6⟩
  have Hb6 := Lib.hid (Hb5.out.trans (hb6.mono hB5))
  clear hb6
  go_wp2
  go_ret
  exact ⟨rfl, by rw [HB.out]; exact Hb6.out⟩
attribute [local go_sem ↓] stSta_eq
set_option maxRecDepth 100000 in
set_option maxHeartbeats 4000000 in
theorem walkBad (A : Option Addr) (n c : Nat) (us : List Int) (id : Int) (w : World) (hn : us.length = n) (hnc : n ≤ c) (hl : n ≤ 20) (hs : Seen w A (numsV us)) (i0 : 0 ≤ id) (i1 : id ≤ 15) (h0 : ¬ n = 0) (hr : ¬ quo.RightQ us) :
    Calls Tryz.prog 3 #[.int .i64 id, .slice A n c] w fun e w' => e = .returned (.bool true) ∧ Below w.heap.size w w' := by
  obtain ⟨B, hB⟩ : ∃ B, w.heap.size = B := ⟨_, rfl⟩
  have HB := Lib.hid hB
  have Hm := Lib.hid (show IntsR w ⟨A, n, c⟩ us from ⟨hn, hnc, hs⟩)
  have l0 : ¬ (20 : Int) < (n : Int) := by omega
  have hml : n ≤ 1000 := by omega
  have hnM : n ≤ maxLen := by unfold maxLen; omega
  have Hno := Lib.hid (show ¬ ((0 ≤ id ∧ id ≤ 15) ∧ (us = [] ∨ quo.RightQ us)) from fun h => by
    rcases h.2 with e | e
    · rw [e] at hn; exact h0 hn.symm
    · exact hr e)
  have Hr := Lib.hid (decide_eq_false hr)
  have hz : ¬ (n : Int) = 0 := by omega
  clear hn hs hB hr
  go_enter Tryz.func3, Tryz.ntmps3
  go_wp2_with fail
  refine (New_any 64 w (by omega) (by omega)).mono ?_
  rw [HB.out]
  rintro e w1 ⟨g, s, rfl, hd, hb⟩
  have Hd1 := Lib.hid hd; have Hb1 := Lib.hid hb
  clear hd hb
  have hB1 : B ≤ w1.heap.size := by have := Hb1.out.size; have := HB.out; omega
  go_wp2_with fail
  refine (VOpen_any B g s none (Dv.new 64) (Vt.new 64) w1 Hd1.out (DevOk.new (by omega) (by omega)) (Vt.new_ok (by omega) (by omega))).mono ?_
  rintro e w2 ⟨v, F, rfl, hv, hiv, hF, ht⟩
  have Hv2 := Lib.hid hiv
  have Hb2 := Lib.hid (Hb1.out.trans (ht.below (fun k hk => footD_lo Hd1.out hk) hB1))
  have hm2 : IntsR w2 ⟨A, n, c⟩ us := Hm.out.below (by rw [HB.out]; exact Hb2.out)
  have KN := Lib.hid (NNew_no id v ⟨A, n, c⟩ us w2 hm2 (by show n ≤ 1000000; omega) Hno.out)
  have hB2 := hiv.size
  clear hv hiv ht hF hm2
  have KR := Lib.hid (fun W (hb : Below B w W) => quo.RRight_any A n c us W Hm.out.len hnM (Hm.out.see.below (by rw [HB.out]; exact hb)))
  rw [Hr.out] at KR
  go_wp2_with fail
  refine KN.out.mono ?_
  rintro e w3 ⟨rfl, hb3⟩
  have Hb3 := Lib.hid (Hb2.out.trans (hb3.mono hB2))
  have hB3 : B ≤ w3.heap.size := Nat.le_trans hB2 hb3.size
  clear hb3
  have KR4 := Lib.hid (KR.out w3 Hb3.out)
  go_wp2_with fail
  refine KR4.out.mono ?_
  rintro e w4 ⟨rfl, hb4⟩
  have Hb4 := Lib.hid (Hb3.out.trans (hb4.mono hB3)); have hB4 : B ≤ w4.heap.size := Nat.le_trans hB3 hb4.size
  clear hb4
  go_wp2_with fail
  refine (NNew_nil 0 none 0 0 w4).mono ?_
  rintro e w5 ⟨rfl, hb5⟩
  have Hb5 := Lib.hid (Hb4.out.trans (hb5.mono hB4))
  have hB5 : B ≤ w5.heap.size := Nat.le_trans hB4 hb5.size
  clear hb5
  go_wp2_with fail
  refine (awake_any w5).mono ?_
  rintro e w6 ⟨rfl, hb6⟩
  have Hb6 := Lib.hid (Hb5.out.trans (hb6.mono hB5))
  clear hb6
  go_wp2
  go_ret
  exact ⟨rfl, by rw [HB.out]; exact Hb6.out⟩
set_option maxRecDepth 100000 in
set_option maxHeartbeats 1000000 in
theorem walk (id : Int) (A : Option Addr) (n c : Nat) (us : List Int) (w : World) (hid : (Lit.int .i64 id).wf = true) (hn : us.length = n) (hnc : n ≤ c) (hcm : c ≤ maxLen) (hs : Seen w A (numsV us)) (hi : ∀ x ∈ us, In64 x) :
    Calls Tryz.prog 3 #[.int .i64 id, .slice A n c] w fun e w' => e = .returned (.bool true) ∧ Below w.heap.size w w' := by
  by_cases hl : n ≤ 20
  · by_cases i0 : 0 ≤ id
    · by_cases i1 : id ≤ 15
      · by_cases h0 : n = 0
        · exact walkNil A n c us id w hn hnc hl hs i0 i1 h0
        · by_cases hr : quo.RightQ us
          · exact walkSome A n c us id w hn hnc hl hs i0 i1 hr
          · exact walkBad A n c us id w hn hnc hl hs i0 i1 h0 hr
      · exact walkBig A n c us id w hn hnc hl hs (by omega)
    · exact walkNeg A n c us id w hn hnc hl hs (by omega)
  · have l1 : (20 : Int) < (n : Int) := by omega
    clear hn hs hi hid hnc hcm
    go_enter Tryz.func3, Tryz.ntmps3
    go_wp2_with fail
    refine (awake_any w).mono ?_
    rintro e w9 ⟨rfl, hz⟩
    have Hz := Lib.hid hz
    clear hz
    go_wp2
    go_ret
    exact ⟨rfl, Hz.out⟩

/-! ### THE ROW -/
theorem own : ownKnob Tryz.prog.godebug = none := by kernel_rfl

set_option maxRecDepth 100000 in
theorem lifted (os : Os) (started : os.Started) (H : Type) (enc : TypeId × Value → H) :
    ReturnsInHanded {} Tryz.checked os 3 .any (Rows.raftNewsSpec.pre6 enc Tryz.prog Tryz.f3 Rows.raftNewsRow.domain false) (Rows.raftNewsSpec.post enc Tryz.prog Tryz.f3 false true false false) := by
  refine returnsInHanded_of_change (C := Tryz.checked) own started (by kernel_rfl) Tryz.func3
    (ChangeSpec.witness6 (enc := enc) (C := Tryz.checked) false ⟨#[], #[.int .i64 0, .slice none 0 0], []⟩ 8 (by kernel_rfl) (by kernel_rfl) (by kernel_rfl) (by kernel_rfl)) ?_
  intro W base args ds gs before hval0 hW hcnd _
  have hval : ∀ (j : Nat) t v, Tryz.f3.params[j]? = some t → args[j]? = some v → Value.okWide Tryz.prog W .any base t v := hval0
  have hW' := hW
  obtain ⟨p, q, hA0, hV, rfl, hfz, hnd⟩ := hW
  have hA : DataW.TrodAll enc Tryz.prog W 0 (fun _ => true) true Tryz.f3.params.toList args.toList ds p := hA0
  rw [Tryz.params3] at hA hval
  obtain ⟨v0, vs0, d0, ds0, p0, q0, hargs, rfl, rfl, h0, r0⟩ := trodAll_cons hA
  obtain ⟨v1, vs1, d1, ds1, p1, q1, rfl, rfl, rfl, h1, r1⟩ := trodAll_cons r0
  obtain ⟨rfl, rfl, rfl⟩ := trodAll_nil r1
  obtain rfl : args = #[v0, v1] := by cases args; simp_all
  obtain ⟨rfl, rfl⟩ := trodVars_none hV
  obtain ⟨a0, rfl, rfl, rfl, w0⟩ := open_int Tryz.underlying3 (hval 0 3 v0 rfl rfl) h0
  obtain ⟨A1, n1, c1, us1, rfl, hn1, hnc1, hcm1, hs1, hu1⟩ := open_nums Tryz.underlying22 Tryz.underlying3 (by kernel_rfl) (hval 1 22 v1 rfl rfl) h1
  refine (walk a0 A1 n1 c1 us1 W w0 hn1 hnc1 hcm1 hs1 hu1).mono fun e W' ⟨he, hg⟩ => ?_
  subst he
  exact ⟨_, rfl, law_post hW' rfl (by kernel_rfl) (by kernel_rfl) (by kernel_rfl) Tryz.underlying4 rfl rfl rfl hg⟩

theorem over : Rows.raftNewsRow.holds Tryz.pinned (OpenSpec.ofChange Rows.raftNewsSpec) :=
  OpenClaim.holds_of_wide 3 Tryz.f3 rfl rfl rfl rfl rfl rfl rfl ⟨rfl, rfl, rfl, rfl, rfl⟩ rfl rfl rfl rfl rfl (by kernel_rfl) Tryz.func3 (by kernel_rfl)
    (of_decide_eq_true (by kernel_rfl)) (by unfold Func.isWrapper; first | (rw [if_pos (by decide +kernel)]; kernel_rfl) | (rw [if_neg (by decide +kernel)]; exact ⟨rfl, rfl⟩))
    (fun os started H enc _ => lifted os started H enc)

theorem proved : Rows.RaftNewsSaid :=
  over
#print axioms proved

end Go.Proofs.YtdlgihgdpdiglaaGreat.RaftNews
