/-
  QuorumMeet: any two majorities meet, of the same members, or of members that one change parts; it holds for every input (members and sayers of up to 20 numbers each, else the example), and the arguments stay as they were. No condition. (Written by gen_quorummeet.py.)
-/
import Derived.Test.YtpoooehnobfjfaaQuoAwk
import Derived.Test.YtpoooehnobfjfaaQuoWon
import Derived.Test.YtpoooehnobfjfaaQuoChg
import Derived.Test.YtpoooehnobfjfaaQuoRef
import Derived.Test.YtpoooehnobfjfaaNums
import Derived.Test.YtpoooehnobfjfaaRows
import Derived.Test.YtpoooehnobfjfaaChecked
namespace Go.Proofs.Ytpoooehnobfjfaa.QuorumMeet
open Go.ChangeShapes Go.WideShapes Go.ChangeAt Go.RowKit
set_option linter.unusedVariables false

set_option maxRecDepth 100000 in
set_option maxHeartbeats 4000000 in
theorem walkIn (A1 A2 A3 : Option Addr) (n1 n2 n3 c1 c2 c3 : Nat) (l a b : List Int) (add : Bool) (id : Int) (w : World) (h1 : l.length = n1) (h2 : a.length = n2) (h3 : b.length = n3) (m1 : n1 ≤ 20) (m2 : n2 ≤ 20) (m3 : n3 ≤ 20)
    (s1 : Seen w A1 (numsV l)) (s2 : Seen w A2 (numsV a)) (s3 : Seen w A3 (numsV b)) (i2 : ∀ x ∈ a, In64 x) (i3 : ∀ x ∈ b, In64 x) :
    Calls Try.prog 4 #[.slice A1 n1 c1, .slice A2 n2 c2, .slice A3 n3 c3, .bool add, .int .i64 id] w fun e w' => e = .returned (.bool true) ∧ Below w.heap.size w w' := by
  have KW1 := Lib.hid (fun (w' : World) (hb : Below w.heap.size w w') => Won_any A1 A2 n1 c1 n2 c2 l a w' h1 (by unfold maxLen; omega) (s1.below hb) h2 (by omega) (s2.below hb) i2)
  have KW2 := Lib.hid (fun (w' : World) (hb : Below w.heap.size w w') => Won_any A1 A3 n1 c1 n3 c3 l b w' h1 (by unfold maxLen; omega) (s1.below hb) h3 (by omega) (s3.below hb) i3)
  have KC := Lib.hid (fun (w' : World) (hb : Below w.heap.size w w') => Change_any A1 n1 c1 l add id w' h1 (by unfold maxLen; omega) (s1.below hb))
  have KM1 := Lib.hid (fun (w' : World) (hb : Below w.heap.size w w') => meet_any A1 A2 A3 n1 n2 n3 c1 c2 c3 l a b w' h1 h2 h3 (by unfold maxLen; omega) (by unfold maxLen; omega) (by unfold maxLen; omega) (s1.below hb) (s2.below hb) (s3.below hb))
  have Hd2 := Lib.hid s2
  have Hd3 := Lib.hid s3
  have l1 : ¬ (20 : Int) < (n1 : Int) := by omega
  have l2 : ¬ (20 : Int) < (n2 : Int) := by omega
  have l3 : ¬ (20 : Int) < (n3 : Int) := by omega
  clear s1 s2 s3
  have HH1 := Lib.hid h1; have HH2 := Lib.hid h2; have HH3 := Lib.hid h3; have HI2 := Lib.hid i2; have HI3 := Lib.hid i3
  clear h1 i2
  by_cases hwa : wonQ l a = true
  · obtain ⟨nx, hnx⟩ : ∃ nx, changeL l add id = nx := ⟨_, rfl⟩
    obtain ⟨er, her⟩ : ∃ er, changeE l add id = er := ⟨_, rfl⟩
    rw [hnx, her] at KC
    have next : er = 0 → wonQ nx b = true → (∃ x ∈ l, x ∈ a ∧ x ∈ b) ∧ ∃ x ∈ nx, x ∈ a ∧ x ∈ b := fun e h => by
      subst e; subst hnx
      exact meet_next hwa her h
    have same : wonQ l b = true → meetQ l a b = true := fun h => decide_eq_true (meet_same hwa h)
    have Next := Lib.hid next; have Same := Lib.hid same
    have HWA := Lib.hid hwa
    clear next same hwa hnx her
    by_cases he : er = 0
    · subst he
      by_cases hwn : wonQ nx b = true
      · have HWN := Lib.hid hwn
        have HML := Lib.hid (show meetQ l a b = true from decide_eq_true (Next.out rfl hwn).1)
        have HMN := Lib.hid (show meetQ nx a b = true from decide_eq_true (Next.out rfl hwn).2)
        clear hwn
        by_cases hwb : wonQ l b = true
        · have HWB := Lib.hid hwb
          clear hwb
          go_enter Try.func4, Try.ntmps4
          go_upto_region 3 with (go_at_call 13; refine (KW1.out w (Below.refl _ _)).mono ?_; rintro e w1 ⟨rfl, hb1⟩; rw [show wonQ l a = true from HWA.out]; have Hb1 := Lib.hid hb1; clear hb1)
          go_upto_region 4 with (go_at_call 10; refine (KC.out w1 Hb1.out).mono ?_; rintro e w2 ⟨An, cn, rfl, hnc2, hcm2, hs2, hb2⟩; have Hs2 := Lib.hid hs2; have Hnc2 := Lib.hid hnc2; have Hcm2 := Lib.hid hcm2; have Hb2 := Lib.hid (Hb1.out.trans (hb2.mono Hb1.out.size)); clear hs2 hnc2 hcm2 hb2)
          go_upto_region 6 with (first
            | (go_at_call 13; refine (KW2.out w2 Hb2.out).mono ?_; rintro e w3 ⟨rfl, hb3⟩; rw [show wonQ l b = true from HWB.out]; have Hb3 := Lib.hid (Hb2.out.trans (hb3.mono Hb2.out.size)); have Hs3 := Lib.hid (Hs2.out.below hb3); clear hb3)
            | (go_at_call 17; refine (KM1.out _ Hb3.out).mono ?_; rintro e w6 ⟨rfl, rfl⟩; rw [HML.out]))
          go_wp2_with (first
            | (go_at_call_of 17 (Value.slice An nx.length cn); refine (meet_any An A2 A3 nx.length n2 n3 cn c2 c3 nx a b _ rfl h2 h3 (by have := Hnc2.out; have := Hcm2.out; omega) (by unfold maxLen; omega) (by unfold maxLen; omega) Hs4.out (Hd2.out.below Hb4.out) (Hd3.out.below Hb4.out)).mono ?_; rintro e w7 ⟨rfl, rfl⟩; rw [HMN.out])
            | (go_at_call 17; refine (KM1.out _ Hb4.out).mono ?_; rintro e w6 ⟨rfl, rfl⟩; rw [HML.out])
            | (go_at_call 13; refine (Won_any An A3 _ cn n3 c3 nx b _ rfl (by have := Hnc2.out; have := Hcm2.out; omega) Hs3.out h3 (by omega) (Hd3.out.below Hb3.out) i3).mono ?_; rintro e w4 ⟨rfl, hb4⟩; rw [show wonQ nx b = true from HWN.out]; have Hb4 := Lib.hid (Hb3.out.trans (hb4.mono Hb3.out.size)); have Hs4 := Lib.hid (Hs3.out.below hb4); clear hb4)
            | (go_at_call 7; refine (awake_any _).mono ?_; rintro e w9 ⟨rfl, hz⟩; have Hz := Lib.hid hz; clear hz))
          go_ret
          exact ⟨rfl, Hb4.out.trans (Hz.out.mono Hb4.out.size)⟩
        · have HWB := Lib.hid (show wonQ l b = false by simpa using hwb)
          clear hwb
          go_enter Try.func4, Try.ntmps4
          go_upto_region 3 with (go_at_call 13; refine (KW1.out w (Below.refl _ _)).mono ?_; rintro e w1 ⟨rfl, hb1⟩; rw [show wonQ l a = true from HWA.out]; have Hb1 := Lib.hid hb1; clear hb1)
          go_upto_region 4 with (go_at_call 10; refine (KC.out w1 Hb1.out).mono ?_; rintro e w2 ⟨An, cn, rfl, hnc2, hcm2, hs2, hb2⟩; have Hs2 := Lib.hid hs2; have Hnc2 := Lib.hid hnc2; have Hcm2 := Lib.hid hcm2; have Hb2 := Lib.hid (Hb1.out.trans (hb2.mono Hb1.out.size)); clear hs2 hnc2 hcm2 hb2)
          go_upto_region 6 with (first
            | (go_at_call 13; refine (KW2.out w2 Hb2.out).mono ?_; rintro e w3 ⟨rfl, hb3⟩; rw [show wonQ l b = false from HWB.out]; have Hb3 := Lib.hid (Hb2.out.trans (hb3.mono Hb2.out.size)); have Hs3 := Lib.hid (Hs2.out.below hb3); clear hb3))
          go_wp2_with (first
            | (go_at_call_of 17 (Value.slice An nx.length cn); refine (meet_any An A2 A3 nx.length n2 n3 cn c2 c3 nx a b _ rfl h2 h3 (by have := Hnc2.out; have := Hcm2.out; omega) (by unfold maxLen; omega) (by unfold maxLen; omega) Hs4.out (Hd2.out.below Hb4.out) (Hd3.out.below Hb4.out)).mono ?_; rintro e w7 ⟨rfl, rfl⟩; rw [HMN.out])
            | (go_at_call 17; refine (KM1.out _ Hb4.out).mono ?_; rintro e w6 ⟨rfl, rfl⟩; rw [HML.out])
            | (go_at_call 13; refine (Won_any An A3 _ cn n3 c3 nx b _ rfl (by have := Hnc2.out; have := Hcm2.out; omega) Hs3.out h3 (by omega) (Hd3.out.below Hb3.out) i3).mono ?_; rintro e w4 ⟨rfl, hb4⟩; rw [show wonQ nx b = true from HWN.out]; have Hb4 := Lib.hid (Hb3.out.trans (hb4.mono Hb3.out.size)); have Hs4 := Lib.hid (Hs3.out.below hb4); clear hb4)
            | (go_at_call 7; refine (awake_any _).mono ?_; rintro e w9 ⟨rfl, hz⟩; have Hz := Lib.hid hz; clear hz))
          go_ret
          exact ⟨rfl, Hb4.out.trans (Hz.out.mono Hb4.out.size)⟩
      · have HWN := Lib.hid (show wonQ nx b = false by simpa using hwn)
        clear hwn
        by_cases hwb : wonQ l b = true
        · have HWB := Lib.hid hwb
          have HML := Lib.hid (Same.out hwb)
          clear hwb
          go_enter Try.func4, Try.ntmps4
          go_upto_region 3 with (go_at_call 13; refine (KW1.out w (Below.refl _ _)).mono ?_; rintro e w1 ⟨rfl, hb1⟩; rw [show wonQ l a = true from HWA.out]; have Hb1 := Lib.hid hb1; clear hb1)
          go_upto_region 4 with (go_at_call 10; refine (KC.out w1 Hb1.out).mono ?_; rintro e w2 ⟨An, cn, rfl, hnc2, hcm2, hs2, hb2⟩; have Hs2 := Lib.hid hs2; have Hnc2 := Lib.hid hnc2; have Hcm2 := Lib.hid hcm2; have Hb2 := Lib.hid (Hb1.out.trans (hb2.mono Hb1.out.size)); clear hs2 hnc2 hcm2 hb2)
          go_upto_region 6 with (first
            | (go_at_call 13; refine (KW2.out w2 Hb2.out).mono ?_; rintro e w3 ⟨rfl, hb3⟩; rw [show wonQ l b = true from HWB.out]; have Hb3 := Lib.hid (Hb2.out.trans (hb3.mono Hb2.out.size)); have Hs3 := Lib.hid (Hs2.out.below hb3); clear hb3)
            | (go_at_call 17; refine (KM1.out _ Hb3.out).mono ?_; rintro e w6 ⟨rfl, rfl⟩; rw [HML.out]))
          go_wp2_with (first
            | (go_at_call 13; refine (Won_any An A3 _ cn n3 c3 nx b _ rfl (by have := Hnc2.out; have := Hcm2.out; omega) Hs3.out h3 (by omega) (Hd3.out.below Hb3.out) i3).mono ?_; rintro e w4 ⟨rfl, hb4⟩; rw [show wonQ nx b = false from HWN.out]; have Hb4 := Lib.hid (Hb3.out.trans (hb4.mono Hb3.out.size)); have Hs4 := Lib.hid (Hs3.out.below hb4); clear hb4)
            | (go_at_call 7; refine (awake_any _).mono ?_; rintro e w9 ⟨rfl, hz⟩; have Hz := Lib.hid hz; clear hz))
          go_ret
          exact ⟨rfl, Hb4.out.trans (Hz.out.mono Hb4.out.size)⟩
        · have HWB := Lib.hid (show wonQ l b = false by simpa using hwb)
          clear hwb
          go_enter Try.func4, Try.ntmps4
          go_upto_region 3 with (go_at_call 13; refine (KW1.out w (Below.refl _ _)).mono ?_; rintro e w1 ⟨rfl, hb1⟩; rw [show wonQ l a = true from HWA.out]; have Hb1 := Lib.hid hb1; clear hb1)
          go_upto_region 4 with (go_at_call 10; refine (KC.out w1 Hb1.out).mono ?_; rintro e w2 ⟨An, cn, rfl, hnc2, hcm2, hs2, hb2⟩; have Hs2 := Lib.hid hs2; have Hnc2 := Lib.hid hnc2; have Hcm2 := Lib.hid hcm2; have Hb2 := Lib.hid (Hb1.out.trans (hb2.mono Hb1.out.size)); clear hs2 hnc2 hcm2 hb2)
          go_upto_region 6 with (first
            | (go_at_call 13; refine (KW2.out w2 Hb2.out).mono ?_; rintro e w3 ⟨rfl, hb3⟩; rw [show wonQ l b = false from HWB.out]; have Hb3 := Lib.hid (Hb2.out.trans (hb3.mono Hb2.out.size)); have Hs3 := Lib.hid (Hs2.out.below hb3); clear hb3))
          go_wp2_with (first
            | (go_at_call 13; refine (Won_any An A3 _ cn n3 c3 nx b _ rfl (by have := Hnc2.out; have := Hcm2.out; omega) Hs3.out h3 (by omega) (Hd3.out.below Hb3.out) i3).mono ?_; rintro e w4 ⟨rfl, hb4⟩; rw [show wonQ nx b = false from HWN.out]; have Hb4 := Lib.hid (Hb3.out.trans (hb4.mono Hb3.out.size)); have Hs4 := Lib.hid (Hs3.out.below hb4); clear hb4)
            | (go_at_call 7; refine (awake_any _).mono ?_; rintro e w9 ⟨rfl, hz⟩; have Hz := Lib.hid hz; clear hz))
          go_ret
          exact ⟨rfl, Hb4.out.trans (Hz.out.mono Hb4.out.size)⟩
    · have q1 : ((er : Int) != 0) = true := by simp; omega
      have He := Lib.hid he
      clear he
      by_cases hwb : wonQ l b = true
      · have HWB := Lib.hid hwb
        have HML := Lib.hid (Same.out hwb)
        clear hwb
        go_enter Try.func4, Try.ntmps4
        go_upto_region 3 with (go_at_call 13; refine (KW1.out w (Below.refl _ _)).mono ?_; rintro e w1 ⟨rfl, hb1⟩; rw [show wonQ l a = true from HWA.out]; have Hb1 := Lib.hid hb1; clear hb1)
        go_upto_region 4 with (go_at_call 10; refine (KC.out w1 Hb1.out).mono ?_; rintro e w2 ⟨An, cn, rfl, hnc2, hcm2, hs2, hb2⟩; have Hs2 := Lib.hid hs2; have Hnc2 := Lib.hid hnc2; have Hcm2 := Lib.hid hcm2; have Hb2 := Lib.hid (Hb1.out.trans (hb2.mono Hb1.out.size)); clear hs2 hnc2 hcm2 hb2)
        go_upto_region 6 with (first
          | (go_at_call 13; refine (KW2.out w2 Hb2.out).mono ?_; rintro e w3 ⟨rfl, hb3⟩; rw [show wonQ l b = true from HWB.out]; have Hb3 := Lib.hid (Hb2.out.trans (hb3.mono Hb2.out.size)); have Hs3 := Lib.hid (Hs2.out.below hb3); clear hb3)
          | (go_at_call 17; refine (KM1.out _ Hb3.out).mono ?_; rintro e w6 ⟨rfl, rfl⟩; rw [HML.out]))
        go_wp2_with (go_at_call 7; refine (awake_any _).mono ?_; rintro e w9 ⟨rfl, hz⟩; have Hz := Lib.hid hz; clear hz)
        go_ret
        exact ⟨rfl, Hb3.out.trans (Hz.out.mono Hb3.out.size)⟩
      · have HWB := Lib.hid (show wonQ l b = false by simpa using hwb)
        clear hwb
        go_enter Try.func4, Try.ntmps4
        go_upto_region 3 with (go_at_call 13; refine (KW1.out w (Below.refl _ _)).mono ?_; rintro e w1 ⟨rfl, hb1⟩; rw [show wonQ l a = true from HWA.out]; have Hb1 := Lib.hid hb1; clear hb1)
        go_upto_region 4 with (go_at_call 10; refine (KC.out w1 Hb1.out).mono ?_; rintro e w2 ⟨An, cn, rfl, hnc2, hcm2, hs2, hb2⟩; have Hs2 := Lib.hid hs2; have Hnc2 := Lib.hid hnc2; have Hcm2 := Lib.hid hcm2; have Hb2 := Lib.hid (Hb1.out.trans (hb2.mono Hb1.out.size)); clear hs2 hnc2 hcm2 hb2)
        go_upto_region 6 with (first
          | (go_at_call 13; refine (KW2.out w2 Hb2.out).mono ?_; rintro e w3 ⟨rfl, hb3⟩; rw [show wonQ l b = false from HWB.out]; have Hb3 := Lib.hid (Hb2.out.trans (hb3.mono Hb2.out.size)); have Hs3 := Lib.hid (Hs2.out.below hb3); clear hb3))
        go_wp2_with (go_at_call 7; refine (awake_any _).mono ?_; rintro e w9 ⟨rfl, hz⟩; have Hz := Lib.hid hz; clear hz)
        go_ret
        exact ⟨rfl, Hb3.out.trans (Hz.out.mono Hb3.out.size)⟩
  · have HWA := Lib.hid (show wonQ l a = false by simpa using hwa)
    clear hwa
    go_enter Try.func4, Try.ntmps4
    go_wp2_with (first
      | (go_at_call 13; refine (KW1.out w (Below.refl _ _)).mono ?_; rintro e w1 ⟨rfl, hb1⟩; rw [show wonQ l a = false from HWA.out]; have Hb1 := Lib.hid hb1; clear hb1)
      | (go_at_call 7; refine (awake_any _).mono ?_; rintro e w9 ⟨rfl, hz⟩; have Hz := Lib.hid hz; clear hz))
    go_ret
    exact ⟨rfl, Hb1.out.trans (Hz.out.mono Hb1.out.size)⟩

set_option maxRecDepth 100000 in
theorem walk (A1 : Option Addr) (n1 c1 : Nat) (l : List Int) (A2 : Option Addr) (n2 c2 : Nat) (a : List Int) (A3 : Option Addr) (n3 c3 : Nat) (b : List Int) (add : Bool) (id : Int) (w : World)
    (h1 : l.length = n1) (nc1 : n1 ≤ c1) (cm1 : c1 ≤ maxLen) (s1 : Seen w A1 (numsV l)) (i1 : ∀ x ∈ l, In64 x) (h2 : a.length = n2) (nc2 : n2 ≤ c2) (cm2 : c2 ≤ maxLen) (s2 : Seen w A2 (numsV a)) (i2 : ∀ x ∈ a, In64 x)
    (h3 : b.length = n3) (nc3 : n3 ≤ c3) (cm3 : c3 ≤ maxLen) (s3 : Seen w A3 (numsV b)) (i3 : ∀ x ∈ b, In64 x) (hid : (Lit.int .i64 id).wf = true) :
    Calls Try.prog 4 #[.slice A1 n1 c1, .slice A2 n2 c2, .slice A3 n3 c3, .bool add, .int .i64 id] w fun e w' => e = .returned (.bool true) ∧ Below w.heap.size w w' := by
  by_cases m1 : n1 ≤ 20
  · by_cases m2 : n2 ≤ 20
    · by_cases m3 : n3 ≤ 20
      · exact walkIn A1 A2 A3 n1 n2 n3 c1 c2 c3 l a b add id w h1 h2 h3 m1 m2 m3 s1 s2 s3 i2 i3
      · have l1 : ¬ (20 : Int) < (n1 : Int) := by omega
        have l2 : ¬ (20 : Int) < (n2 : Int) := by omega
        have l3 : (20 : Int) < (n3 : Int) := by omega
        clear h1 h2 h3 s1 s2 s3 i1 i2 i3
        go_enter Try.func4, Try.ntmps4
        go_wp2_with (go_at_call 7; refine (awake_any _).mono ?_; rintro e w9 ⟨rfl, hz⟩; have Hz := Lib.hid hz; clear hz)
        go_ret
        exact ⟨rfl, Hz.out⟩
    · have l1 : ¬ (20 : Int) < (n1 : Int) := by omega
      have l2 : (20 : Int) < (n2 : Int) := by omega
      clear h1 h2 h3 s1 s2 s3 i1 i2 i3
      go_enter Try.func4, Try.ntmps4
      go_wp2_with (go_at_call 7; refine (awake_any _).mono ?_; rintro e w9 ⟨rfl, hz⟩; have Hz := Lib.hid hz; clear hz)
      go_ret
      exact ⟨rfl, Hz.out⟩
  · have l1 : (20 : Int) < (n1 : Int) := by omega
    clear h1 h2 h3 s1 s2 s3 i1 i2 i3
    go_enter Try.func4, Try.ntmps4
    go_wp2_with (go_at_call 7; refine (awake_any _).mono ?_; rintro e w9 ⟨rfl, hz⟩; have Hz := Lib.hid hz; clear hz)
    go_ret
    exact ⟨rfl, Hz.out⟩

/-! ### THE ROW -/
theorem own : ownKnob Try.prog.godebug = none := by kernel_rfl

set_option maxRecDepth 100000 in
theorem lifted (os : Os) (started : os.Started) (H : Type) (enc : TypeId × Value → H) :
    ReturnsInHanded {} Try.checked os 4 .any (Rows.quorumMeetSpec.pre6 enc Try.prog Try.f4 Rows.quorumMeetRow.domain false) (Rows.quorumMeetSpec.post enc Try.prog Try.f4 false true false false) := by
  refine returnsInHanded_of_change (C := Try.checked) own started (by kernel_rfl) Try.func4
    (ChangeSpec.witness6 (enc := enc) (C := Try.checked) false ⟨#[], #[.slice none 0 0, .slice none 0 0, .slice none 0 0, .bool false, .int .i64 0], []⟩ 8 (by kernel_rfl) (by kernel_rfl) (by kernel_rfl) (by kernel_rfl)) ?_
  intro W base args ds gs before hval0 hW hcnd _
  have hval : ∀ (j : Nat) t v, Try.f4.params[j]? = some t → args[j]? = some v → Value.okWide Try.prog W .any base t v := hval0
  have hW' := hW
  obtain ⟨p, q, hA0, hV, rfl, hfz, hnd⟩ := hW
  have hA : DataW.TrodAll enc Try.prog W 0 (fun _ => true) true Try.f4.params.toList args.toList ds p := hA0
  rw [Try.params4] at hA hval
  obtain ⟨v0, vs0, d0, ds0, p0, q0, hargs, rfl, rfl, h0, r0⟩ := trodAll_cons hA
  obtain ⟨v1, vs1, d1, ds1, p1, q1, rfl, rfl, rfl, h1, r1⟩ := trodAll_cons r0
  obtain ⟨v2, vs2, d2, ds2, p2, q2, rfl, rfl, rfl, h2, r2⟩ := trodAll_cons r1
  obtain ⟨v3, vs3, d3, ds3, p3, q3, rfl, rfl, rfl, h3, r3⟩ := trodAll_cons r2
  obtain ⟨v4, vs4, d4, ds4, p4, q4, rfl, rfl, rfl, h4, r4⟩ := trodAll_cons r3
  obtain ⟨rfl, rfl, rfl⟩ := trodAll_nil r4
  obtain rfl : args = #[v0, v1, v2, v3, v4] := by cases args; simp_all
  obtain ⟨rfl, rfl⟩ := trodVars_none hV
  obtain ⟨A0, n0, c0, us0, rfl, hn0, hnc0, hcm0, hs0, hu0⟩ := open_nums Try.underlying22 Try.underlying3 (by kernel_rfl) (hval 0 22 v0 rfl rfl) h0
  obtain ⟨A1, n1, c1, us1, rfl, hn1, hnc1, hcm1, hs1, hu1⟩ := open_nums Try.underlying22 Try.underlying3 (by kernel_rfl) (hval 1 22 v1 rfl rfl) h1
  obtain ⟨A2, n2, c2, us2, rfl, hn2, hnc2, hcm2, hs2, hu2⟩ := open_nums Try.underlying22 Try.underlying3 (by kernel_rfl) (hval 2 22 v2 rfl rfl) h2
  obtain ⟨a3, rfl, rfl, rfl⟩ := open_bool Try.underlying4 (hval 3 4 v3 rfl rfl) h3
  obtain ⟨a4, rfl, rfl, rfl, w4⟩ := open_int Try.underlying3 (hval 4 3 v4 rfl rfl) h4
  refine (walk A0 n0 c0 us0 A1 n1 c1 us1 A2 n2 c2 us2 a3 a4 W hn0 hnc0 hcm0 hs0 hu0 hn1 hnc1 hcm1 hs1 hu1 hn2 hnc2 hcm2 hs2 hu2 w4).mono fun e W' ⟨he, hg⟩ => ?_
  subst he
  exact ⟨_, rfl, law_post hW' rfl (by kernel_rfl) (by kernel_rfl) (by kernel_rfl) Try.underlying4 rfl rfl rfl hg⟩

theorem over : Rows.quorumMeetRow.holds Try.pinned (OpenSpec.ofChange Rows.quorumMeetSpec) :=
  OpenClaim.holds_of_wide 4 Try.f4 rfl rfl rfl rfl rfl rfl rfl ⟨rfl, rfl, rfl, rfl, rfl⟩ rfl rfl rfl rfl rfl (by kernel_rfl) Try.func4 (by kernel_rfl)
    (of_decide_eq_true (by kernel_rfl)) (by unfold Func.isWrapper; first | (rw [if_pos (by decide +kernel)]; kernel_rfl) | (rw [if_neg (by decide +kernel)]; exact ⟨rfl, rfl⟩))
    (fun os started H enc _ => lifted os started H enc)

theorem proved : Rows.QuorumMeetSaid :=
  over
#print axioms proved

end Go.Proofs.Ytpoooehnobfjfaa.QuorumMeet
