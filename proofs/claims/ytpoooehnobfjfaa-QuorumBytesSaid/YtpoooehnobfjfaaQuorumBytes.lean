/-
  QuorumBytes: right members come back out of their bytes; other bytes are refused; a change is undone by the other one; it holds for every input (of up to 20 numbers and 20 bytes, else the example), and the arguments stay as they were. No condition. (Written by gen_quorumbytes.py.)
-/
import Derived.Test.YtpoooehnobfjfaaQuoAwk
import Derived.Test.YtpoooehnobfjfaaQuoChg
import Derived.Test.YtpoooehnobfjfaaQuoByt
import Derived.Test.YtpoooehnobfjfaaQuoRef
import Derived.Test.YtpoooehnobfjfaaSameI
import Derived.Test.YtpoooehnobfjfaaSame
import Derived.Test.YtpoooehnobfjfaaNums
import Derived.Test.YtpoooehnobfjfaaRows
import Derived.Test.YtpoooehnobfjfaaChecked
namespace Go.Proofs.Ytpoooehnobfjfaa.QuorumBytes
open Go.ChangeShapes Go.WideShapes Go.ChangeAt Go.RowKit
set_option linter.unusedVariables false

theorem in64_right {l : List Int} (h : RightQ l) : ∀ x ∈ l, In64 x := fun x hx => by
  have := h.2.1 x hx
  unfold InQ at this
  unfold In64
  omega
theorem fields_short {l : List Int} (h : RightQ l) : (bytesQ l).length ≤ 72 := by
  have h1 := fieldsQ_length (in64_right h)
  have h2 := numB_len9 (n := l.length) (by have := h.1.2; omega)
  have := h.1.2
  unfold bytesQ
  rw [List.length_append]
  omega
/-- bytes that are some right members' -/
theorem read_yes (A : Option Addr) (n c : Nat) (bs : List UInt8) (l : List Int) (w : World) (hn : bs.length = n) (hl : n ≤ 1000000) (hs : Seen w A (bytesV bs)) (hr : RightQ l) (hb : bytesQ l = bs) :
    Calls Try.prog 18 #[.slice A n c] w fun e w' => ∃ A' c', e = .returned (.tuple #[.slice A' l.length c', .bool true]) ∧ l.length ≤ c' ∧ c' ≤ maxLen ∧ Seen w' A' (numsV l) ∧ Below w.heap.size w w' := by
  refine (QRead_any A n c bs w hn hl hs).mono ?_
  rintro e w' ⟨⟨l2, A2, c2, k1, k2, k3, k4, k5, k6⟩ | ⟨k1, _⟩, hbl⟩
  · have e2 := (read_of k1 k2).symm.trans (read_of hr hb)
    injection e2 with e2 _
    subst e2
    exact ⟨A2, c2, k3, k4, k5, k6, hbl⟩
  · exact absurd hb (k1 l hr)
theorem read_no (A : Option Addr) (n c : Nat) (bs : List UInt8) (w : World) (hn : bs.length = n) (hl : n ≤ 1000000) (hs : Seen w A (bytesV bs)) (hno : ¬ ∃ l, RightQ l ∧ bytesQ l = bs) :
    Calls Try.prog 18 #[.slice A n c] w fun e w' => e = .returned (.tuple #[.slice none 0 0, .bool false]) ∧ Below w.heap.size w w' := by
  refine (QRead_any A n c bs w hn hl hs).mono ?_
  rintro e w' ⟨⟨l2, A2, c2, k1, k2, _⟩ | ⟨k1, k2⟩, hbl⟩
  · exact absurd ⟨l2, k1, k2⟩ hno
  · exact ⟨k2, hbl⟩

set_option maxRecDepth 100000 in
set_option maxHeartbeats 1000000 in
theorem walkIn (A1 A2 : Option Addr) (n1 n2 c1 c2 : Nat) (l : List Int) (bs : List UInt8) (id : Int) (w : World) (h1 : l.length = n1) (h2 : bs.length = n2) (m1 : n1 ≤ 20) (m2 : n2 ≤ 20)
    (s1 : Seen w A1 (numsV l)) (s2 : Seen w A2 (bytesV bs)) (i1 : ∀ x ∈ l, In64 x) :
    Calls Try.prog 5 #[.slice A1 n1 c1, .slice A2 n2 c2, .int .i64 id] w fun e w' => e = .returned (.bool true) ∧ Below w.heap.size w w' := by
  have S1 := Lib.hid s1; have S2 := Lib.hid s2
  have l1 : ¬ (20 : Int) < (n1 : Int) := by omega
  have l2 : ¬ (20 : Int) < (n2 : Int) := by omega
  have KC := Lib.hid (fun (w' : World) (hb : Below w.heap.size w w') => Change_any A1 n1 c1 l true id w' h1 (by unfold maxLen; omega) (s1.below hb))
  have HH1 := Lib.hid h1; have HH2 := Lib.hid h2; have HI1 := Lib.hid i1
  by_cases hex : ∃ lx, RightQ lx ∧ bytesQ lx = bs
  · obtain ⟨lx, hrx, hbx⟩ := hex
    have KX := Lib.hid (read_yes A2 n2 c2 bs lx w h2 (by omega) s2 hrx hbx)
    have x1 : (0 : Int) < (lx.length : Int) := by have := hrx.1.1; omega
    have hlx : (bytesQ lx).length ≤ 9223372036854775807 := by have := fields_short hrx; omega
    have Hrx := Lib.hid hrx; have Hbx := Lib.hid hbx; have Hlx := Lib.hid hlx
    clear hrx hbx hlx s1 s2 h1 h2 i1
    by_cases hr : RightQ l
    · have Hr := Lib.hid hr
      clear hr
      by_cases he : changeE l true id = 0
      · have hback := change_back he
        obtain ⟨nx, hnx⟩ : ∃ nx, changeL l true id = nx := ⟨_, rfl⟩
        rw [he, hnx] at KC
        rw [hnx] at hback
        have KC2 := Lib.hid (fun (An : Option Addr) (cn : Nat) (w' : World) (hm : nx.length ≤ maxLen) (hs : Seen w' An (numsV nx)) => Change_any An nx.length cn nx false id w' rfl hm hs)
        rw [hback.1, hback.2] at KC2
        clear he hback hnx
        go_enter Try.func5, Try.ntmps5
        go_upto_region 4 with (go_at_call 18; refine KX.out.mono ?_; rintro e u1 ⟨Ax, cx, rfl, hnc1, hcm1, hs1, hb1⟩; have Hs1 := Lib.hid hs1; have Hnc1 := Lib.hid hnc1; have Hcm1 := Lib.hid hcm1; have Hb1 := Lib.hid hb1; clear hs1 hnc1 hcm1 hb1)
        go_upto_region 6 with (first
          | (go_at_call 19; refine (Same_any A3 A2 _ n2 c3 c2 (bytesQ lx) bs u3 (bytes_length _).symm HH2.out (.of_own Hown3.out) (S2.out.below Hb3.out) (by rw [bytes_length]; exact Hlx.out)).mono ?_; rintro e u4 ⟨rfl, hb4⟩; rw [show decide (bytesQ lx = bs) = true from decide_eq_true Hbx.out]; have Hb4 := Lib.hid (Hb3.out.trans (hb4.mono Hb3.out.size)); clear hb4)
          | (go_at_call 20; refine (QBytes_any Ax lx.length cx lx u2 rfl (by have := Hrx.out.1.2; omega) Hs2.out (in64_right Hrx.out)).mono ?_; rintro e u3 ⟨A3, c3, rfl, hown3, hb3⟩; have Hown3 := Lib.hid hown3; have Hb3 := Lib.hid (Hb2.out.trans (hb3.mono Hb2.out.size)); clear hown3 hb3)
          | (go_at_call 8; refine (RRight_any Ax lx.length cx lx u1 rfl (by have := Hnc1.out; have := Hcm1.out; omega) Hs1.out).mono ?_; rintro e u2 ⟨rfl, hb2⟩; rw [show decide (RightQ lx) = true from decide_eq_true Hrx.out]; have Hs2 := Lib.hid (Hs1.out.below hb2); have Hb2 := Lib.hid (Hb1.out.trans (hb2.mono Hb1.out.size)); clear hb2))
        go_upto_region 8 with (go_at_call 8; refine (RRight_any A1 n1 c1 l u4 HH1.out (by unfold maxLen; omega) (S1.out.below Hb4.out)).mono ?_; rintro e u5 ⟨rfl, hb5⟩; rw [show decide (RightQ l) = true from decide_eq_true Hr.out]; have Hb5 := Lib.hid (Hb4.out.trans (hb5.mono Hb4.out.size)); clear hb5)
        go_upto_region 9 with (first
          | (go_at_call 18; refine (read_yes A6 _ c6 (bytesQ l) l u6 (bytes_length _).symm (by rw [bytes_length]; have := fields_short Hr.out; omega) (.of_own Hown6.out) Hr.out rfl).mono ?_; rintro e u7 ⟨Ay, cy, rfl, hnc7, hcm7, hs7, hb7⟩; have Hs7 := Lib.hid hs7; have Hnc7 := Lib.hid hnc7; have Hcm7 := Lib.hid hcm7; have Hb7 := Lib.hid (Hb6.out.trans (hb7.mono Hb6.out.size)); clear hs7 hnc7 hcm7 hb7)
          | (go_at_call 20; refine (QBytes_any A1 n1 c1 l u5 HH1.out (by omega) (S1.out.below Hb5.out) HI1.out).mono ?_; rintro e u6 ⟨A6, c6, rfl, hown6, hb6⟩; have Hown6 := Lib.hid hown6; have Hb6 := Lib.hid (Hb5.out.trans (hb6.mono Hb5.out.size)); clear hown6 hb6))
        go_upto_region 11 with (go_at_call 16; refine (SameInts_any Ay A1 _ _ cy c1 l l u7 (by first | rfl | exact HH1.out) (by first | rfl | exact HH1.out) Hs7.out (S1.out.below Hb7.out) (by have := Hnc7.out; have := Hcm7.out; omega)).mono ?_; rintro e u8 ⟨rfl, hb8⟩; rw [show decide (l = l) = true from decide_eq_true rfl]; have Hb8 := Lib.hid (Hb7.out.trans (hb8.mono Hb7.out.size)); clear hb8)
        go_upto_region 12 with (go_at_call 10; refine (KC.out u8 Hb8.out).mono ?_; rintro e u10 ⟨An, cn, rfl, hnc10, hcm10, hs10, hb10⟩; have Hs10 := Lib.hid hs10; have Hnc10 := Lib.hid hnc10; have Hcm10 := Lib.hid hcm10; have Hb10 := Lib.hid (Hb8.out.trans (hb10.mono Hb8.out.size)); clear hs10 hnc10 hcm10 hb10)
        go_upto_region 15 with (go_at_call 10; refine (KC2.out An cn u10 (by have := Hnc10.out; have := Hcm10.out; omega) Hs10.out).mono ?_; rintro e u11 ⟨Ak, ck, rfl, hnc11, hcm11, hs11, hb11⟩; have Hs11 := Lib.hid hs11; have Hnc11 := Lib.hid hnc11; have Hcm11 := Lib.hid hcm11; have Hb11 := Lib.hid (Hb10.out.trans (hb11.mono Hb10.out.size)); clear hs11 hnc11 hcm11 hb11)
        go_wp2_with (first
          | (go_at_call 7; refine (awake_any _).mono ?_; rintro e w9 ⟨rfl, hz⟩; have Hz := Lib.hid hz; clear hz)
          | (go_at_call 16; refine (SameInts_any Ak A1 _ _ ck c1 l l u11 (by first | rfl | exact HH1.out) (by first | rfl | exact HH1.out) Hs11.out (S1.out.below Hb11.out) (by have := Hnc11.out; have := Hcm11.out; omega)).mono ?_; rintro e u12 ⟨rfl, hb12⟩; rw [show decide (l = l) = true from decide_eq_true rfl]; have Hb12 := Lib.hid (Hb11.out.trans (hb12.mono Hb11.out.size)); clear hb12))
        go_ret
        exact ⟨rfl, Hb12.out.trans (Hz.out.mono Hb12.out.size)⟩
      · obtain ⟨nx, hnx⟩ : ∃ nx, changeL l true id = nx := ⟨_, rfl⟩
        obtain ⟨er, her⟩ : ∃ er, changeE l true id = er := ⟨_, rfl⟩
        rw [her, hnx] at KC
        rw [her] at he
        have q1 : ((er : Int) != 0) = true := by simp; omega
        have He := Lib.hid he
        clear he her hnx
        go_enter Try.func5, Try.ntmps5
        go_upto_region 4 with (go_at_call 18; refine KX.out.mono ?_; rintro e u1 ⟨Ax, cx, rfl, hnc1, hcm1, hs1, hb1⟩; have Hs1 := Lib.hid hs1; have Hnc1 := Lib.hid hnc1; have Hcm1 := Lib.hid hcm1; have Hb1 := Lib.hid hb1; clear hs1 hnc1 hcm1 hb1)
        go_upto_region 6 with (first
          | (go_at_call 19; refine (Same_any A3 A2 _ n2 c3 c2 (bytesQ lx) bs u3 (bytes_length _).symm HH2.out (.of_own Hown3.out) (S2.out.below Hb3.out) (by rw [bytes_length]; exact Hlx.out)).mono ?_; rintro e u4 ⟨rfl, hb4⟩; rw [show decide (bytesQ lx = bs) = true from decide_eq_true Hbx.out]; have Hb4 := Lib.hid (Hb3.out.trans (hb4.mono Hb3.out.size)); clear hb4)
          | (go_at_call 20; refine (QBytes_any Ax lx.length cx lx u2 rfl (by have := Hrx.out.1.2; omega) Hs2.out (in64_right Hrx.out)).mono ?_; rintro e u3 ⟨A3, c3, rfl, hown3, hb3⟩; have Hown3 := Lib.hid hown3; have Hb3 := Lib.hid (Hb2.out.trans (hb3.mono Hb2.out.size)); clear hown3 hb3)
          | (go_at_call 8; refine (RRight_any Ax lx.length cx lx u1 rfl (by have := Hnc1.out; have := Hcm1.out; omega) Hs1.out).mono ?_; rintro e u2 ⟨rfl, hb2⟩; rw [show decide (RightQ lx) = true from decide_eq_true Hrx.out]; have Hs2 := Lib.hid (Hs1.out.below hb2); have Hb2 := Lib.hid (Hb1.out.trans (hb2.mono Hb1.out.size)); clear hb2))
        go_upto_region 8 with (go_at_call 8; refine (RRight_any A1 n1 c1 l u4 HH1.out (by unfold maxLen; omega) (S1.out.below Hb4.out)).mono ?_; rintro e u5 ⟨rfl, hb5⟩; rw [show decide (RightQ l) = true from decide_eq_true Hr.out]; have Hb5 := Lib.hid (Hb4.out.trans (hb5.mono Hb4.out.size)); clear hb5)
        go_upto_region 9 with (first
          | (go_at_call 18; refine (read_yes A6 _ c6 (bytesQ l) l u6 (bytes_length _).symm (by rw [bytes_length]; have := fields_short Hr.out; omega) (.of_own Hown6.out) Hr.out rfl).mono ?_; rintro e u7 ⟨Ay, cy, rfl, hnc7, hcm7, hs7, hb7⟩; have Hs7 := Lib.hid hs7; have Hnc7 := Lib.hid hnc7; have Hcm7 := Lib.hid hcm7; have Hb7 := Lib.hid (Hb6.out.trans (hb7.mono Hb6.out.size)); clear hs7 hnc7 hcm7 hb7)
          | (go_at_call 20; refine (QBytes_any A1 n1 c1 l u5 HH1.out (by omega) (S1.out.below Hb5.out) HI1.out).mono ?_; rintro e u6 ⟨A6, c6, rfl, hown6, hb6⟩; have Hown6 := Lib.hid hown6; have Hb6 := Lib.hid (Hb5.out.trans (hb6.mono Hb5.out.size)); clear hown6 hb6))
        go_upto_region 11 with (go_at_call 16; refine (SameInts_any Ay A1 _ _ cy c1 l l u7 (by first | rfl | exact HH1.out) (by first | rfl | exact HH1.out) Hs7.out (S1.out.below Hb7.out) (by have := Hnc7.out; have := Hcm7.out; omega)).mono ?_; rintro e u8 ⟨rfl, hb8⟩; rw [show decide (l = l) = true from decide_eq_true rfl]; have Hb8 := Lib.hid (Hb7.out.trans (hb8.mono Hb7.out.size)); clear hb8)
        go_upto_region 12 with (go_at_call 10; refine (KC.out u8 Hb8.out).mono ?_; rintro e u10 ⟨An, cn, rfl, hnc10, hcm10, hs10, hb10⟩; have Hs10 := Lib.hid hs10; have Hnc10 := Lib.hid hnc10; have Hcm10 := Lib.hid hcm10; have Hb10 := Lib.hid (Hb8.out.trans (hb10.mono Hb8.out.size)); clear hs10 hnc10 hcm10 hb10)
        go_wp2_with (go_at_call 7; refine (awake_any _).mono ?_; rintro e w9 ⟨rfl, hz⟩; have Hz := Lib.hid hz; clear hz)
        go_ret
        exact ⟨rfl, Hb10.out.trans (Hz.out.mono Hb10.out.size)⟩
    · have Hr := Lib.hid hr
      clear hr
      go_enter Try.func5, Try.ntmps5
      go_upto_region 4 with (go_at_call 18; refine KX.out.mono ?_; rintro e u1 ⟨Ax, cx, rfl, hnc1, hcm1, hs1, hb1⟩; have Hs1 := Lib.hid hs1; have Hnc1 := Lib.hid hnc1; have Hcm1 := Lib.hid hcm1; have Hb1 := Lib.hid hb1; clear hs1 hnc1 hcm1 hb1)
      go_upto_region 6 with (first
        | (go_at_call 19; refine (Same_any A3 A2 _ n2 c3 c2 (bytesQ lx) bs u3 (bytes_length _).symm HH2.out (.of_own Hown3.out) (S2.out.below Hb3.out) (by rw [bytes_length]; exact Hlx.out)).mono ?_; rintro e u4 ⟨rfl, hb4⟩; rw [show decide (bytesQ lx = bs) = true from decide_eq_true Hbx.out]; have Hb4 := Lib.hid (Hb3.out.trans (hb4.mono Hb3.out.size)); clear hb4)
        | (go_at_call 20; refine (QBytes_any Ax lx.length cx lx u2 rfl (by have := Hrx.out.1.2; omega) Hs2.out (in64_right Hrx.out)).mono ?_; rintro e u3 ⟨A3, c3, rfl, hown3, hb3⟩; have Hown3 := Lib.hid hown3; have Hb3 := Lib.hid (Hb2.out.trans (hb3.mono Hb2.out.size)); clear hown3 hb3)
        | (go_at_call 8; refine (RRight_any Ax lx.length cx lx u1 rfl (by have := Hnc1.out; have := Hcm1.out; omega) Hs1.out).mono ?_; rintro e u2 ⟨rfl, hb2⟩; rw [show decide (RightQ lx) = true from decide_eq_true Hrx.out]; have Hs2 := Lib.hid (Hs1.out.below hb2); have Hb2 := Lib.hid (Hb1.out.trans (hb2.mono Hb1.out.size)); clear hb2))
      go_wp2_with (first
        | (go_at_call 7; refine (awake_any _).mono ?_; rintro e w9 ⟨rfl, hz⟩; have Hz := Lib.hid hz; clear hz)
        | (go_at_call 8; refine (RRight_any A1 n1 c1 l u4 HH1.out (by unfold maxLen; omega) (S1.out.below Hb4.out)).mono ?_; rintro e u5 ⟨rfl, hb5⟩; rw [show decide (RightQ l) = false from decide_eq_false Hr.out]; have Hb5 := Lib.hid (Hb4.out.trans (hb5.mono Hb4.out.size)); clear hb5))
      go_ret
      exact ⟨rfl, Hb5.out.trans (Hz.out.mono Hb5.out.size)⟩
  · have KX := Lib.hid (read_no A2 n2 c2 bs w h2 (by omega) s2 hex)
    clear hex s1 s2 h1 h2 i1
    by_cases hr : RightQ l
    · have Hr := Lib.hid hr
      clear hr
      by_cases he : changeE l true id = 0
      · have hback := change_back he
        obtain ⟨nx, hnx⟩ : ∃ nx, changeL l true id = nx := ⟨_, rfl⟩
        rw [he, hnx] at KC
        rw [hnx] at hback
        have KC2 := Lib.hid (fun (An : Option Addr) (cn : Nat) (w' : World) (hm : nx.length ≤ maxLen) (hs : Seen w' An (numsV nx)) => Change_any An nx.length cn nx false id w' rfl hm hs)
        rw [hback.1, hback.2] at KC2
        clear he hback hnx
        go_enter Try.func5, Try.ntmps5
        go_upto_region 4 with (go_at_call 18; refine KX.out.mono ?_; rintro e u4 ⟨rfl, hb4⟩; have Hb4 := Lib.hid hb4; clear hb4)
        go_upto_region 6 with fail
        go_upto_region 8 with (go_at_call 8; refine (RRight_any A1 n1 c1 l u4 HH1.out (by unfold maxLen; omega) (S1.out.below Hb4.out)).mono ?_; rintro e u5 ⟨rfl, hb5⟩; rw [show decide (RightQ l) = true from decide_eq_true Hr.out]; have Hb5 := Lib.hid (Hb4.out.trans (hb5.mono Hb4.out.size)); clear hb5)
        go_upto_region 9 with (first
          | (go_at_call 18; refine (read_yes A6 _ c6 (bytesQ l) l u6 (bytes_length _).symm (by rw [bytes_length]; have := fields_short Hr.out; omega) (.of_own Hown6.out) Hr.out rfl).mono ?_; rintro e u7 ⟨Ay, cy, rfl, hnc7, hcm7, hs7, hb7⟩; have Hs7 := Lib.hid hs7; have Hnc7 := Lib.hid hnc7; have Hcm7 := Lib.hid hcm7; have Hb7 := Lib.hid (Hb6.out.trans (hb7.mono Hb6.out.size)); clear hs7 hnc7 hcm7 hb7)
          | (go_at_call 20; refine (QBytes_any A1 n1 c1 l u5 HH1.out (by omega) (S1.out.below Hb5.out) HI1.out).mono ?_; rintro e u6 ⟨A6, c6, rfl, hown6, hb6⟩; have Hown6 := Lib.hid hown6; have Hb6 := Lib.hid (Hb5.out.trans (hb6.mono Hb5.out.size)); clear hown6 hb6))
        go_upto_region 11 with (go_at_call 16; refine (SameInts_any Ay A1 _ _ cy c1 l l u7 (by first | rfl | exact HH1.out) (by first | rfl | exact HH1.out) Hs7.out (S1.out.below Hb7.out) (by have := Hnc7.out; have := Hcm7.out; omega)).mono ?_; rintro e u8 ⟨rfl, hb8⟩; rw [show decide (l = l) = true from decide_eq_true rfl]; have Hb8 := Lib.hid (Hb7.out.trans (hb8.mono Hb7.out.size)); clear hb8)
        go_upto_region 12 with (go_at_call 10; refine (KC.out u8 Hb8.out).mono ?_; rintro e u10 ⟨An, cn, rfl, hnc10, hcm10, hs10, hb10⟩; have Hs10 := Lib.hid hs10; have Hnc10 := Lib.hid hnc10; have Hcm10 := Lib.hid hcm10; have Hb10 := Lib.hid (Hb8.out.trans (hb10.mono Hb8.out.size)); clear hs10 hnc10 hcm10 hb10)
        go_upto_region 15 with (go_at_call 10; refine (KC2.out An cn u10 (by have := Hnc10.out; have := Hcm10.out; omega) Hs10.out).mono ?_; rintro e u11 ⟨Ak, ck, rfl, hnc11, hcm11, hs11, hb11⟩; have Hs11 := Lib.hid hs11; have Hnc11 := Lib.hid hnc11; have Hcm11 := Lib.hid hcm11; have Hb11 := Lib.hid (Hb10.out.trans (hb11.mono Hb10.out.size)); clear hs11 hnc11 hcm11 hb11)
        go_wp2_with (first
          | (go_at_call 7; refine (awake_any _).mono ?_; rintro e w9 ⟨rfl, hz⟩; have Hz := Lib.hid hz; clear hz)
          | (go_at_call 16; refine (SameInts_any Ak A1 _ _ ck c1 l l u11 (by first | rfl | exact HH1.out) (by first | rfl | exact HH1.out) Hs11.out (S1.out.below Hb11.out) (by have := Hnc11.out; have := Hcm11.out; omega)).mono ?_; rintro e u12 ⟨rfl, hb12⟩; rw [show decide (l = l) = true from decide_eq_true rfl]; have Hb12 := Lib.hid (Hb11.out.trans (hb12.mono Hb11.out.size)); clear hb12))
        go_ret
        exact ⟨rfl, Hb12.out.trans (Hz.out.mono Hb12.out.size)⟩
      · obtain ⟨nx, hnx⟩ : ∃ nx, changeL l true id = nx := ⟨_, rfl⟩
        obtain ⟨er, her⟩ : ∃ er, changeE l true id = er := ⟨_, rfl⟩
        rw [her, hnx] at KC
        rw [her] at he
        have q1 : ((er : Int) != 0) = true := by simp; omega
        have He := Lib.hid he
        clear he her hnx
        go_enter Try.func5, Try.ntmps5
        go_upto_region 4 with (go_at_call 18; refine KX.out.mono ?_; rintro e u4 ⟨rfl, hb4⟩; have Hb4 := Lib.hid hb4; clear hb4)
        go_upto_region 6 with fail
        go_upto_region 8 with (go_at_call 8; refine (RRight_any A1 n1 c1 l u4 HH1.out (by unfold maxLen; omega) (S1.out.below Hb4.out)).mono ?_; rintro e u5 ⟨rfl, hb5⟩; rw [show decide (RightQ l) = true from decide_eq_true Hr.out]; have Hb5 := Lib.hid (Hb4.out.trans (hb5.mono Hb4.out.size)); clear hb5)
        go_upto_region 9 with (first
          | (go_at_call 18; refine (read_yes A6 _ c6 (bytesQ l) l u6 (bytes_length _).symm (by rw [bytes_length]; have := fields_short Hr.out; omega) (.of_own Hown6.out) Hr.out rfl).mono ?_; rintro e u7 ⟨Ay, cy, rfl, hnc7, hcm7, hs7, hb7⟩; have Hs7 := Lib.hid hs7; have Hnc7 := Lib.hid hnc7; have Hcm7 := Lib.hid hcm7; have Hb7 := Lib.hid (Hb6.out.trans (hb7.mono Hb6.out.size)); clear hs7 hnc7 hcm7 hb7)
          | (go_at_call 20; refine (QBytes_any A1 n1 c1 l u5 HH1.out (by omega) (S1.out.below Hb5.out) HI1.out).mono ?_; rintro e u6 ⟨A6, c6, rfl, hown6, hb6⟩; have Hown6 := Lib.hid hown6; have Hb6 := Lib.hid (Hb5.out.trans (hb6.mono Hb5.out.size)); clear hown6 hb6))
        go_upto_region 11 with (go_at_call 16; refine (SameInts_any Ay A1 _ _ cy c1 l l u7 (by first | rfl | exact HH1.out) (by first | rfl | exact HH1.out) Hs7.out (S1.out.below Hb7.out) (by have := Hnc7.out; have := Hcm7.out; omega)).mono ?_; rintro e u8 ⟨rfl, hb8⟩; rw [show decide (l = l) = true from decide_eq_true rfl]; have Hb8 := Lib.hid (Hb7.out.trans (hb8.mono Hb7.out.size)); clear hb8)
        go_upto_region 12 with (go_at_call 10; refine (KC.out u8 Hb8.out).mono ?_; rintro e u10 ⟨An, cn, rfl, hnc10, hcm10, hs10, hb10⟩; have Hs10 := Lib.hid hs10; have Hnc10 := Lib.hid hnc10; have Hcm10 := Lib.hid hcm10; have Hb10 := Lib.hid (Hb8.out.trans (hb10.mono Hb8.out.size)); clear hs10 hnc10 hcm10 hb10)
        go_wp2_with (go_at_call 7; refine (awake_any _).mono ?_; rintro e w9 ⟨rfl, hz⟩; have Hz := Lib.hid hz; clear hz)
        go_ret
        exact ⟨rfl, Hb10.out.trans (Hz.out.mono Hb10.out.size)⟩
    · have Hr := Lib.hid hr
      clear hr
      go_enter Try.func5, Try.ntmps5
      go_upto_region 4 with (go_at_call 18; refine KX.out.mono ?_; rintro e u4 ⟨rfl, hb4⟩; have Hb4 := Lib.hid hb4; clear hb4)
      go_upto_region 6 with fail
      go_wp2_with (first
        | (go_at_call 7; refine (awake_any _).mono ?_; rintro e w9 ⟨rfl, hz⟩; have Hz := Lib.hid hz; clear hz)
        | (go_at_call 8; refine (RRight_any A1 n1 c1 l u4 HH1.out (by unfold maxLen; omega) (S1.out.below Hb4.out)).mono ?_; rintro e u5 ⟨rfl, hb5⟩; rw [show decide (RightQ l) = false from decide_eq_false Hr.out]; have Hb5 := Lib.hid (Hb4.out.trans (hb5.mono Hb4.out.size)); clear hb5))
      go_ret
      exact ⟨rfl, Hb5.out.trans (Hz.out.mono Hb5.out.size)⟩

set_option maxRecDepth 100000 in
theorem walk (A1 : Option Addr) (n1 c1 : Nat) (l : List Int) (A2 : Option Addr) (n2 c2 : Nat) (bs : List UInt8) (id : Int) (w : World)
    (h1 : l.length = n1) (nc1 : n1 ≤ c1) (cm1 : c1 ≤ maxLen) (s1 : Seen w A1 (numsV l)) (i1 : ∀ x ∈ l, In64 x) (h2 : bs.length = n2) (nc2 : n2 ≤ c2) (cm2 : c2 ≤ maxLen) (s2 : Seen w A2 (bytesV bs)) (hid : (Lit.int .i64 id).wf = true) :
    Calls Try.prog 5 #[.slice A1 n1 c1, .slice A2 n2 c2, .int .i64 id] w fun e w' => e = .returned (.bool true) ∧ Below w.heap.size w w' := by
  by_cases m1 : n1 ≤ 20
  · by_cases m2 : n2 ≤ 20
    · exact walkIn A1 A2 n1 n2 c1 c2 l bs id w h1 h2 m1 m2 s1 s2 i1
    · have l1 : ¬ (20 : Int) < (n1 : Int) := by omega
      have l2 : (20 : Int) < (n2 : Int) := by omega
      clear h1 h2 s1 s2 i1
      go_enter Try.func5, Try.ntmps5
      go_wp2_with (go_at_call 7; refine (awake_any _).mono ?_; rintro e w9 ⟨rfl, hz⟩; have Hz := Lib.hid hz; clear hz)
      go_ret
      exact ⟨rfl, Hz.out⟩
  · have l1 : (20 : Int) < (n1 : Int) := by omega
    clear h1 h2 s1 s2 i1
    go_enter Try.func5, Try.ntmps5
    go_wp2_with (go_at_call 7; refine (awake_any _).mono ?_; rintro e w9 ⟨rfl, hz⟩; have Hz := Lib.hid hz; clear hz)
    go_ret
    exact ⟨rfl, Hz.out⟩

/-! ### THE ROW -/
theorem own : ownKnob Try.prog.godebug = none := by kernel_rfl

set_option maxRecDepth 100000 in
theorem lifted (os : Os) (started : os.Started) (H : Type) (enc : TypeId × Value → H) :
    ReturnsInHanded {} Try.checked os 5 .any (Rows.quorumBytesSpec.pre6 enc Try.prog Try.f5 Rows.quorumBytesRow.domain false) (Rows.quorumBytesSpec.post enc Try.prog Try.f5 false true false false) := by
  refine returnsInHanded_of_change (C := Try.checked) own started (by kernel_rfl) Try.func5
    (ChangeSpec.witness6 (enc := enc) (C := Try.checked) false ⟨#[], #[.slice none 0 0, .slice none 0 0, .int .i64 0], []⟩ 8 (by kernel_rfl) (by kernel_rfl) (by kernel_rfl) (by kernel_rfl)) ?_
  intro W base args ds gs before hval0 hW hcnd _
  have hval : ∀ (j : Nat) t v, Try.f5.params[j]? = some t → args[j]? = some v → Value.okWide Try.prog W .any base t v := hval0
  have hW' := hW
  obtain ⟨p, q, hA0, hV, rfl, hfz, hnd⟩ := hW
  have hA : DataW.TrodAll enc Try.prog W 0 (fun _ => true) true Try.f5.params.toList args.toList ds p := hA0
  rw [Try.params5] at hA hval
  obtain ⟨v0, vs0, d0, ds0, p0, q0, hargs, rfl, rfl, h0, r0⟩ := trodAll_cons hA
  obtain ⟨v1, vs1, d1, ds1, p1, q1, rfl, rfl, rfl, h1, r1⟩ := trodAll_cons r0
  obtain ⟨v2, vs2, d2, ds2, p2, q2, rfl, rfl, rfl, h2, r2⟩ := trodAll_cons r1
  obtain ⟨rfl, rfl, rfl⟩ := trodAll_nil r2
  obtain rfl : args = #[v0, v1, v2] := by cases args; simp_all
  obtain ⟨rfl, rfl⟩ := trodVars_none hV
  obtain ⟨A0, n0, c0, us0, rfl, hn0, hnc0, hcm0, hs0, hu0⟩ := open_nums Try.underlying22 Try.underlying3 (by kernel_rfl) (hval 0 22 v0 rfl rfl) h0
  obtain ⟨A1, n1, c1, bs1, rfl, hn1, hnc1, hcm1, hsee1⟩ := open_bytes Try.underlying36 Try.underlying5 (by kernel_rfl) (hval 1 36 v1 rfl rfl) h1
  obtain ⟨a2, rfl, rfl, rfl, w2⟩ := open_int Try.underlying3 (hval 2 3 v2 rfl rfl) h2
  refine (walk A0 n0 c0 us0 A1 n1 c1 bs1 a2 W hn0 hnc0 hcm0 hs0 hu0 hn1 hnc1 hcm1 hsee1 w2).mono fun e W' ⟨he, hg⟩ => ?_
  subst he
  exact ⟨_, rfl, law_post hW' rfl (by kernel_rfl) (by kernel_rfl) (by kernel_rfl) Try.underlying4 rfl rfl rfl hg⟩

theorem over : Rows.quorumBytesRow.holds Try.pinned (OpenSpec.ofChange Rows.quorumBytesSpec) :=
  OpenClaim.holds_of_wide 5 Try.f5 rfl rfl rfl rfl rfl rfl rfl ⟨rfl, rfl, rfl, rfl, rfl⟩ rfl rfl rfl rfl rfl (by kernel_rfl) Try.func5 (by kernel_rfl)
    (of_decide_eq_true (by kernel_rfl)) (by unfold Func.isWrapper; first | (rw [if_pos (by decide +kernel)]; kernel_rfl) | (rw [if_neg (by decide +kernel)]; exact ⟨rfl, rfl⟩))
    (fun os started H enc _ => lifted os started H enc)

theorem proved : Rows.QuorumBytesSaid :=
  over
#print axioms proved

end Go.Proofs.Ytpoooehnobfjfaa.QuorumBytes
