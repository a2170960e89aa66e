/-
  Joined: PolR, PolL, PolAd. Conditions: each theorem's own.
-/
import Derived.Test.YteebkolccbcehaaGreatJB
import Derived.Test.YteebkolccbcehaaGreatJA

section
set_option linter.all false
namespace Go.Proofs.YteebkolccbcehaaGreat
open Go.ChangeShapes Go.WideShapes Go.ChangeAt Go.RowKit
theorem xV (n a b : Int) (w : World) :
  Calls Tryz.prog 86 #[.int .i64 n, .int .i64 a, .int .i64 b] w fun e w' => e = .returned (.bool (decide (a <= n /\ n <= b))) /\ w = w' := by
 by_cases h1 : a <= n
 ·by_cases h2 : n <= b
  ·go_enter Tryz.func86, Tryz.ntmps86
   go_wp2
   go_ret
   exact ⟨yz (by simp <;> omega), rfl⟩
  ·go_enter Tryz.func86, Tryz.ntmps86
   go_wp2
   go_ret
   exact ⟨yz (by simp <;> omega), rfl⟩
 ·go_enter Tryz.func86, Tryz.ntmps86
  go_wp2
  go_ret
  exact ⟨yz (by simp <;> omega), rfl⟩
theorem zg (w : World) (o : Obj) : Below w.heap.size w (w.alloc o) := (Below.refl _ _).alloc (Nat.le_refl _) o
set_option maxRecDepth 100000 in
set_option maxHeartbeats 2000000 in
theorem Yw (p : Pol) (w : World) : Calls Tryz.prog 77 #[.agg #[.int .i64 p.re, .int .i64 p.we, .int .i64 p.li, .int .i64 p.bu]] w fun e w' => e = .returned (.bool (yc p)) /\ Below w.heap.size w w' := by
 obtain ⟨re, we, li, bu⟩ := p
 show Calls _ _ _ _ fun e w' => e = .returned (.bool (decide (0 <= re /\ re <= 1048576) && decide (1 <= we /\ we <= 1024) && decide (0 <= li /\ li <= 1048576) && decide (0 <= bu /\ bu <= 1024) && decide (li = 0 \/ re <= li))) /\ _
 have Hb := ihq (zg w (.cells #[.int .i64 re, .int .i64 we, .int .i64 li, .int .i64 bu] 37))
 obtain ⟨b1, e1⟩ : ∃ b, decide (0 <= re /\ re <= 1048576) = b := ⟨_, rfl⟩
 obtain ⟨b2, e2⟩ : ∃ b, decide (1 <= we /\ we <= 1024) = b := ⟨_, rfl⟩
 obtain ⟨b3, e3⟩ : ∃ b, decide (0 <= li /\ li <= 1048576) = b := ⟨_, rfl⟩
 obtain ⟨b4, e4⟩ : ∃ b, decide (0 <= bu /\ bu <= 1024) = b := ⟨_, rfl⟩
 rw [e1, e2, e3, e4]
 have E1 := ihq e1; have E2 := ihq e2; have E3 := ihq e3; have E4 := ihq e4
 clear e1 e2 e3 e4
 have C1 := ihq (fun w => (xV re 0 1048576 w)); have C2 := ihq (fun w => xV we 1 1024 w); have C3 := ihq (fun w => xV li 0 1048576 w); have C4 := ihq (fun w => xV bu 0 1024 w)
 by_cases h0 : li = 0
 ·have hz : (li == 0) = true := by simpa using h0
  have h5 : decide (li = 0 \/ re <= li) = true := decide_eq_true (.inl h0)
  rw [h5]; clear h5 h0
  go_enter Tryz.func77, Tryz.ntmps77
  rcases b1 <;> rcases b2 <;> rcases b3 <;> rcases b4
  all_goals
   go_wp2_with (first
    | (go_at_call_of 86 (Value.int .i64 re); refine (C1.out _).mono ?_; rw [E1.out]; rintro e w' ⟨rfl, rfl⟩)
    | (go_at_call_of 86 (Value.int .i64 we); refine (C2.out _).mono ?_; rw [E2.out]; rintro e w' ⟨rfl, rfl⟩)
    | (go_at_call_of 86 (Value.int .i64 li); refine (C3.out _).mono ?_; rw [E3.out]; rintro e w' ⟨rfl, rfl⟩)
    | (go_at_call_of 86 (Value.int .i64 bu); refine (C4.out _).mono ?_; rw [E4.out]; rintro e w' ⟨rfl, rfl⟩))
   go_ret
   exact ⟨rfl, Hb.out⟩
 ·have hz : (li == 0) = false := by simpa using h0
  by_cases h6 : re <= li
  ·have h5 : decide (li = 0 \/ re <= li) = true := decide_eq_true (.inr h6)
   rw [h5]; clear h5 h0
   go_enter Tryz.func77, Tryz.ntmps77
   rcases b1 <;> rcases b2 <;> rcases b3 <;> rcases b4
   all_goals
    go_wp2_with (first
     | (go_at_call_of 86 (Value.int .i64 re); refine (C1.out _).mono ?_; rw [E1.out]; rintro e w' ⟨rfl, rfl⟩)
     | (go_at_call_of 86 (Value.int .i64 we); refine (C2.out _).mono ?_; rw [E2.out]; rintro e w' ⟨rfl, rfl⟩)
     | (go_at_call_of 86 (Value.int .i64 li); refine (C3.out _).mono ?_; rw [E3.out]; rintro e w' ⟨rfl, rfl⟩)
     | (go_at_call_of 86 (Value.int .i64 bu); refine (C4.out _).mono ?_; rw [E4.out]; rintro e w' ⟨rfl, rfl⟩))
    go_ret
    exact ⟨rfl, Hb.out⟩
  ·have h5 : decide (li = 0 \/ re <= li) = false := decide_eq_false (fun h => h.elim h0 h6)
   rw [h5]; clear h5 h0
   go_enter Tryz.func77, Tryz.ntmps77
   rcases b1 <;> rcases b2 <;> rcases b3 <;> rcases b4
   all_goals
    go_wp2_with (first
     | (go_at_call_of 86 (Value.int .i64 re); refine (C1.out _).mono ?_; rw [E1.out]; rintro e w' ⟨rfl, rfl⟩)
     | (go_at_call_of 86 (Value.int .i64 we); refine (C2.out _).mono ?_; rw [E2.out]; rintro e w' ⟨rfl, rfl⟩)
     | (go_at_call_of 86 (Value.int .i64 li); refine (C3.out _).mono ?_; rw [E3.out]; rintro e w' ⟨rfl, rfl⟩)
     | (go_at_call_of 86 (Value.int .i64 bu); refine (C4.out _).mono ?_; rw [E4.out]; rintro e w' ⟨rfl, rfl⟩))
    go_ret
    first | exact ⟨rfl, Hb.out⟩ | exact ⟨yz (by simp <;> omega), Hb.out⟩
set_option maxRecDepth 100000 in
set_option maxHeartbeats 2000000 in
theorem xA (p : Pol) (w : World) : Calls Tryz.prog 50 #[.agg #[.int .i64 p.re, .int .i64 p.we, .int .i64 p.li, .int .i64 p.bu]] w fun e w' => e = .returned (.bool (yc p)) /\ Below w.heap.size w w' := by
 have hright := YD p
 obtain ⟨re, we, li, bu⟩ := p
 simp only at hright
 obtain ⟨r, hr⟩ : ∃ b, yc ⟨re, we, li, bu⟩ = b := ⟨_, rfl⟩
 rw [hr] at hright ⊢
 clear hr
 show Calls _ _ #[.agg #[.int .i64 re, .int .i64 we, .int .i64 li, .int .i64 bu]] _ _
 have Hr := ihq hright; clear hright
 have Hb := ihq (zg w (.cells #[.int .i64 re, .int .i64 we, .int .i64 li, .int .i64 bu] 37))
 have no : ∀ P : Prop, P -> (P -> ¬ ((0 <= re /\ re <= 1048576) /\ (1 <= we /\ we <= 1024) /\ (0 <= li /\ li <= 1048576) /\ (0 <= bu /\ bu <= 1024) /\ (li = 0 \/ re <= li))) -> r = false := fun P h k => by
  cases hr : r with
  | false => rfl
  | true => exact absurd (Hr.out.1 hr) (k h)
 have No := ihq no; clear no
 by_cases c1 : re < 0
 ·obtain rfl := No.out _ c1 (by omega)
  go_enter Tryz.func50, Tryz.ntmps50
  go_wp2
  go_ret
  exact ⟨rfl, Hb.out⟩
 by_cases c2 : 1048576 < re
 ·obtain rfl := No.out _ c2 (by omega)
  go_enter Tryz.func50, Tryz.ntmps50
  go_wp2
  go_ret
  exact ⟨rfl, Hb.out⟩
 by_cases c3 : li < 0
 ·obtain rfl := No.out _ c3 (by omega)
  go_enter Tryz.func50, Tryz.ntmps50
  go_wp2
  go_ret
  exact ⟨rfl, Hb.out⟩
 by_cases c4 : 1048576 < li
 ·obtain rfl := No.out _ c4 (by omega)
  go_enter Tryz.func50, Tryz.ntmps50
  go_wp2
  go_ret
  exact ⟨rfl, Hb.out⟩
 by_cases c5 : we < 1
 ·obtain rfl := No.out _ c5 (by omega)
  go_enter Tryz.func50, Tryz.ntmps50
  go_wp2
  go_ret
  exact ⟨rfl, Hb.out⟩
 by_cases c6 : 1024 < we
 ·obtain rfl := No.out _ c6 (by omega)
  go_enter Tryz.func50, Tryz.ntmps50
  go_wp2
  go_ret
  exact ⟨rfl, Hb.out⟩
 by_cases c7 : bu < 0
 ·obtain rfl := No.out _ c7 (by omega)
  go_enter Tryz.func50, Tryz.ntmps50
  go_wp2
  go_ret
  exact ⟨rfl, Hb.out⟩
 by_cases c8 : 1024 < bu
 ·obtain rfl := No.out _ c8 (by omega)
  go_enter Tryz.func50, Tryz.ntmps50
  go_wp2
  go_ret
  exact ⟨rfl, Hb.out⟩
 by_cases h0 : li = 0
 ·have hz : (li == 0) = true := by simpa using h0
  obtain rfl : r = true := Hr.out.2 ⟨by omega, by omega, by omega, by omega, .inl h0⟩
  clear h0
  go_enter Tryz.func50, Tryz.ntmps50
  go_wp2
  go_ret
  exact ⟨rfl, Hb.out⟩
 ·have hz : (li == 0) = false := by simpa using h0
  by_cases h6 : re <= li
  ·obtain rfl : r = true := Hr.out.2 ⟨by omega, by omega, by omega, by omega, .inr h6⟩
   clear h0
   go_enter Tryz.func50, Tryz.ntmps50
   go_wp2
   go_ret
   exact ⟨rfl, Hb.out⟩
  ·obtain rfl := No.out _ h6 (by omega)
   clear h0
   go_enter Tryz.func50, Tryz.ntmps50
   go_wp2
   go_ret
   exact ⟨rfl, Hb.out⟩
end Go.Proofs.YteebkolccbcehaaGreat
end

section
set_option linter.all false
namespace Go.Proofs.YteebkolccbcehaaGreat
open Go.ChangeShapes Go.WideShapes Go.ChangeAt Go.RowKit
theorem share_space (re : Int) (w : World) : Calls Tryz.prog 111 #[.int .i64 (xt re)] w fun e w' => e = .returned (.int .i64 (xJ (xt re))) /\ w = w' := share_any _ _ (QD re)
theorem rshare_space (re : Int) (w : World) : Calls Tryz.prog 113 #[.int .i64 (xt re)] w fun e w' => e = .returned (.int .i64 (xJ (xt re))) /\ w = w' := refShare_any _ _ (QD re)
theorem load_k {l : List Pol} {k : Nat} {p : Pol} {z s : Int} (hp : l[k]? = some p) (hz : y5 (l.take k) = z) (hs : xJ (xt p.re) = s) : y5 (l.take (k + 1)) = z + s := by
 rw [loadP_more hp, hz, <- hs]
 rfl
theorem load_all {l : List Pol} {n : Nat} (hn : l.length = n) : y5 (l.take n) = y5 l := by rw [List.take_of_length_le (by omega)]
attribute [local go_sem ↓] yA
set_option maxRecDepth 100000 in
theorem Load_any (A : Option Addr) (n c : Nat) (l : List Pol) (w : World) (hn : l.length = n) (hle : n <= 4096) (hs : xj w A l) :
  Calls Tryz.prog 88 #[.slice A n c] w fun e w' => e = .returned (.int .i64 (y5 l)) /\ Below w.heap.size w w' := by
 have Hs := ihq hs; have Hn := ihq hn; have Hle := ihq hle
 clear hs hn
 go_enter Tryz.func88, Tryz.ntmps88
 go_wp2
 go_loopw [3, 8] (fun x i wr => ∃ k : Nat, k <= n /\ i = .int .i64 k /\ x = .int .i64 (y5 (l.take k)) /\ Below w.heap.size w wr) (fun _ i _ => n - (intOf i).toNat)
 case atStart => exact ⟨0, by omega, rfl, rfl, Below.refl _ _⟩
 case round =>
  obtain ⟨k, hk, rfl, rfl, hb⟩ := hrel
  have Hb := ihq hb
  clear hb
  by_cases hlt : k < n
  ·obtain ⟨g, o, ⟨re, we, li, bu⟩, rfl, hp, hat⟩ := Hs.out.get (k := k) (by rw [Hn.out]; exact hlt)
   have hld := zZ (hat.below Hb.out)
   clear hat
   simp only at hld
   obtain ⟨z, hz⟩ : ∃ z, y5 (l.take k) = z := ⟨_, rfl⟩
   obtain ⟨s, hs⟩ : ∃ s, xJ (xt re) = s := ⟨_, rfl⟩
   have Hm := ihq (load_k hp hz hs)
   have hz1 := YB (l := l) (by rw [Hn.out]; exact hle) k
   have hz2 := Xg (xt re)
   rw [hz] at hz1 ⊢
   have C2 := ihq (share_space re)
   rw [hs] at hz2 C2
   clear hz hs hp
   have b0 : (0 : Int) <= (k : Int) := by omega
   have b1 : (k : Int) < (n : Int) := by omega
   go_wp2_with (first
    | (go_at_call 112; refine (space_any re _).mono ?_; rintro e w' ⟨rfl, rfl⟩)
    | (go_at_call 111; refine (C2.out _).mono ?_; rintro e w' ⟨rfl, rfl⟩))
   go_roundw
   case rel => exact ⟨k + 1, by omega, by go_num, by rw [Hm.out], Hb.out.alloc Hb.out.size _⟩
   case measure => simp [intOf]; omega
  ·have hkn : k = n := by omega
   subst hkn
   have hall := load_all Hn.out
   rw [hall]
   clear hall
   go_wp2
   go_ret
   exact ⟨rfl, Hb.out⟩
set_option maxRecDepth 100000 in
theorem RLoad_any (A : Option Addr) (n c : Nat) (l : List Pol) (w : World) (hn : l.length = n) (hle : n <= 4096) (hs : xj w A l) :
  Calls Tryz.prog 92 #[.slice A n c] w fun e w' => e = .returned (.int .i64 (y5 l)) /\ Below w.heap.size w w' := by
 have Hs := ihq hs; have Hn := ihq hn; have Hle := ihq hle
 clear hs hn
 go_enter Tryz.func92, Tryz.ntmps92
 go_wp2
 go_loopw [3, 4] (fun x i wr => ∃ k : Nat, k <= n /\ i = .int .i64 k /\ x = .int .i64 (y5 (l.take k)) /\ Below w.heap.size w wr) (fun _ i _ => n - (intOf i).toNat)
 case atStart => exact ⟨0, by omega, rfl, rfl, Below.refl _ _⟩
 case round =>
  obtain ⟨k, hk, rfl, rfl, hb⟩ := hrel
  have Hb := ihq hb
  clear hb
  by_cases hlt : k < n
  ·obtain ⟨g, o, ⟨re, we, li, bu⟩, rfl, hp, hat⟩ := Hs.out.get (k := k) (by rw [Hn.out]; exact hlt)
   have hld := (hat.below Hb.out).1
   clear hat
   simp only at hld
   obtain ⟨z, hz⟩ : ∃ z, y5 (l.take k) = z := ⟨_, rfl⟩
   obtain ⟨s, hs⟩ : ∃ s, xJ (xt re) = s := ⟨_, rfl⟩
   have Hm := ihq (load_k hp hz hs)
   have hz1 := YB (l := l) (by rw [Hn.out]; exact hle) k
   have hz2 := Xg (xt re)
   rw [hz] at hz1 ⊢
   have C2 := ihq (rshare_space re)
   rw [hs] at hz2 C2
   clear hz hs hp
   have b0 : (0 : Int) <= (k : Int) := by omega
   have b1 : (k : Int) < (n : Int) := by omega
   go_wp2_with (first
    | (go_at_call 114; refine (refSpace_any re _).mono ?_; rintro e w' ⟨rfl, rfl⟩)
    | (go_at_call 113; refine (C2.out _).mono ?_; rintro e w' ⟨rfl, rfl⟩))
   go_roundw
   case rel => exact ⟨k + 1, by omega, by go_num, by rw [Hm.out], Hb.out⟩
   case measure => simp [intOf]; omega
  ·have hkn : k = n := by omega
   subst hkn
   have hall := load_all Hn.out
   rw [hall]
   clear hall
   go_wp2
   go_ret
   exact ⟨rfl, Hb.out⟩
set_option maxRecDepth 100000 in
theorem allRight_any (A : Option Addr) (n c : Nat) (l : List Pol) (w : World) (hn : l.length = n) (hle : n <= 4096) (hs : xj w A l) :
  Calls Tryz.prog 87 #[.slice A n c] w fun e w' => e = .returned (.bool (allP l)) /\ Below w.heap.size w w' := by
 have Hs := ihq hs; have Hn := ihq hn; have Hle := ihq hle
 clear hs hn
 go_enter Tryz.func87, Tryz.ntmps87
 go_wp2
 go_loopw [7] (fun i wr => ∃ k : Nat, k <= n /\ i = .int .i64 k /\ allP (l.take k) = true /\ Below w.heap.size w wr) (fun i _ => n - (intOf i).toNat)
 case atStart => exact ⟨0, by omega, rfl, rfl, Below.refl _ _⟩
 case round =>
  obtain ⟨k, hk, rfl, hall, hb⟩ := hrel
  have Hb := ihq hb; have Hall := ihq hall
  clear hb hall
  by_cases hlt : k < n
  ·obtain ⟨g, o, p, rfl, hp, hat⟩ := Hs.out.get (k := k) (by rw [Hn.out]; exact hlt)
   have hld := zZ (hat.below Hb.out)
   have Hin := ihq hat.2.2.2.2
   have C := ihq (Yw p)
   obtain ⟨r, hr⟩ : ∃ r, yc p = r := ⟨_, rfl⟩
   rw [hr] at C
   have Hr := ihq hr; have Hp := ihq hp
   clear hat hr hp
   have b0 : (0 : Int) <= (k : Int) := by omega
   have b1 : (k : Int) < (n : Int) := by omega
   obtain ⟨re, we, li, bu⟩ := p
   simp only at hld C
   obtain ⟨w2, hw2⟩ : ∃ w2, wr.alloc (.cells #[.int .i64 re, .int .i64 we, .int .i64 li, .int .i64 bu] 37) = w2 := ⟨_, rfl⟩
   have hld2 : (QO (.pointer (some ⟨wr.heap.size, 0, none⟩))).run Tryz.prog w2 = _ := zZ (p := ⟨re, we, li, bu⟩) (by rw [<- hw2]; exact ZT (heap_alloc_new _ _) Hin.out)
   have Hb2 := ihq (show Below w.heap.size w w2 by rw [<- hw2]; exact Hb.out.alloc Hb.out.size _)
   simp only at hld2
   cases r with
   | true =>
    go_wp2_with (go_at_call 77; refine (C.out _).mono ?_; rintro e w' ⟨rfl, hb3⟩; have Hb3 := ihq (Hb2.out.trans (hb3.mono Hb2.out.size)); clear hb3)
    go_roundw
    case rel => exact ⟨k + 1, by omega, by go_num, QY Hp.out Hall.out Hr.out, Hb3.out⟩
    case measure => simp [intOf]; omega
   | false =>
    go_wp2_with (go_at_call 77; refine (C.out _).mono ?_; rintro e w' ⟨rfl, hb3⟩; have Hb3 := ihq (Hb2.out.trans (hb3.mono Hb2.out.size)); clear hb3)
    go_ret
    exact ⟨yz (allP_no Hp.out Hr.out).symm, Hb3.out⟩
  ·have hkn : k = n := by omega
   subst hkn
   go_wp2
   go_ret
   exact ⟨yz (by have h := Hall.out; rw [List.take_of_length_le (by have := Hn.out; omega)] at h; exact h.symm), Hb.out⟩
end Go.Proofs.YteebkolccbcehaaGreat
end

section
set_option linter.all false
namespace Go.Proofs.YteebkolccbcehaaGreat
open Go.ChangeShapes Go.WideShapes Go.ChangeAt Go.RowKit
theorem Qi (picks : Int) (l : List Pol) {n : Nat} (hn : l.length = n) : yY picks l = (decide (1 <= picks /\ picks <= 64) && decide (n <= 4096) && allP l && decide (y5 l <= picks * 16777216)) := by rw [<- hn]; rfl
set_option maxRecDepth 100000 in
set_option maxHeartbeats 2000000 in
theorem Qs (picks : Int) (A : Option Addr) (n c : Nat) (l : List Pol) (w : World) (hn : l.length = n) (hm : n <= maxLen) (hs : xj w A l) (h1 : In64 picks) :
  Calls Tryz.prog 48 #[.int .i64 picks, .slice A n c] w fun e w' => e = .returned (.bool (yY picks l)) /\ Below w.heap.size w w' := by
 unfold maxLen at hm
 obtain ⟨i1, i2⟩ := h1
 rw [Qi picks l hn]
 by_cases hp : 1 <= picks /\ picks <= 64
 ·rw [decide_eq_true hp]
  have C1 := ihq (fun w => xV picks 1 64 w)
  simp only [decide_eq_true hp] at C1
  obtain ⟨p1, p2⟩ := hp
  by_cases hle : n <= 4096
  ·rw [decide_eq_true hle]
   have C2 := ihq (fun w' (hb : Below w.heap.size w w') => allRight_any A n c l w' hn hle (hs.below hb))
   have C3 := ihq (fun w' (hb : Below w.heap.size w w') => Load_any A n c l w' hn hle (hs.below hb))
   obtain ⟨z, hz⟩ : ∃ z, y5 l = z := ⟨_, rfl⟩
   have hz1 := Y4 l
   have hz2 : 0 <= z /\ z <= 4503599627370496 := by rw [hz] at hz1; omega
   rw [hz] at C3 ⊢
   have hle' : (n : Int) <= 4096 := by omega
   clear hz hz1 hs hn hle
   obtain ⟨r, hr⟩ : ∃ r, allP l = r := ⟨_, rfl⟩
   rw [hr] at C2 ⊢
   clear hr
   cases r with
   | false =>
    go_enter Tryz.func48, Tryz.ntmps48
    go_wp2_with (first
     | (go_at_call 86; refine (C1.out _).mono ?_; rintro e w1 ⟨rfl, rfl⟩)
     | (go_at_call 87; refine (C2.out _ (Below.refl _ _)).mono ?_; rintro e w2 ⟨rfl, hb2⟩; have Hb2 := ihq hb2; clear hb2))
    go_ret
    exact ⟨rfl, Hb2.out⟩
   | true =>
    by_cases hl : z <= picks * 16777216
    ·rw [decide_eq_true hl]
     go_enter Tryz.func48, Tryz.ntmps48
     go_wp2_with (first
      | (go_at_call 86; refine (C1.out _).mono ?_; rintro e w1 ⟨rfl, rfl⟩)
      | (go_at_call 87; refine (C2.out _ (Below.refl _ _)).mono ?_; rintro e w2 ⟨rfl, hb2⟩; have Hb2 := ihq hb2; clear hb2)
      | (go_at_call 88; refine (C3.out _ Hb2.out).mono ?_; rintro e w3 ⟨rfl, hb3⟩; have Hb3 := ihq (Hb2.out.trans (hb3.mono Hb2.out.size)); clear hb3))
     go_ret
     exact ⟨rfl, Hb3.out⟩
    ·rw [decide_eq_false hl]
     go_enter Tryz.func48, Tryz.ntmps48
     go_wp2_with (first
      | (go_at_call 86; refine (C1.out _).mono ?_; rintro e w1 ⟨rfl, rfl⟩)
      | (go_at_call 87; refine (C2.out _ (Below.refl _ _)).mono ?_; rintro e w2 ⟨rfl, hb2⟩; have Hb2 := ihq hb2; clear hb2)
      | (go_at_call 88; refine (C3.out _ Hb2.out).mono ?_; rintro e w3 ⟨rfl, hb3⟩; have Hb3 := ihq (Hb2.out.trans (hb3.mono Hb2.out.size)); clear hb3))
     go_ret
     exact ⟨yz (by simp <;> omega), Hb3.out⟩
  ·rw [decide_eq_false hle]
   have hle' : ¬ (n : Int) <= 4096 := by omega
   go_enter Tryz.func48, Tryz.ntmps48
   go_wp2_with (go_at_call 86; refine (C1.out _).mono ?_; rintro e w1 ⟨rfl, rfl⟩)
   go_ret
   exact ⟨yz (by simp <;> omega), Below.refl _ _⟩
 ·rw [decide_eq_false hp]
  have C1 := ihq (fun w => xV picks 1 64 w)
  simp only [decide_eq_false hp] at C1
  clear hp
  go_enter Tryz.func48, Tryz.ntmps48
  go_wp2_with (go_at_call 86; refine (C1.out _).mono ?_; rintro e w1 ⟨rfl, rfl⟩)
  go_ret
  exact ⟨rfl, Below.refl _ _⟩
attribute [local go_sem ↓] yA
set_option maxRecDepth 100000 in
set_option maxHeartbeats 2000000 in
theorem RAdmits_any (picks : Int) (A : Option Addr) (n c : Nat) (l : List Pol) (w : World) (hn : l.length = n) (hm : n <= maxLen) (hs : xj w A l) (h1 : In64 picks) :
  Calls Tryz.prog 56 #[.int .i64 picks, .slice A n c] w fun e w' => e = .returned (.bool (yY picks l)) /\ Below w.heap.size w w' := by
 unfold maxLen at hm
 obtain ⟨i1, i2⟩ := h1
 rw [Qi picks l hn]
 by_cases hp : picks < 1
 ·rw [decide_eq_false (show ¬ (1 <= picks /\ picks <= 64) by omega)]
  go_enter Tryz.func56, Tryz.ntmps56
  go_wp2
  go_ret
  exact ⟨rfl, Below.refl _ _⟩
 by_cases hq : 64 < picks
 ·rw [decide_eq_false (show ¬ (1 <= picks /\ picks <= 64) by omega)]
  go_enter Tryz.func56, Tryz.ntmps56
  go_wp2
  go_ret
  exact ⟨rfl, Below.refl _ _⟩
 rw [decide_eq_true (show 1 <= picks /\ picks <= 64 by omega)]
 by_cases hle : 4096 < n
 ·rw [decide_eq_false (show ¬ n <= 4096 by omega)]
  have hle' : 4096 < (n : Int) := by omega
  go_enter Tryz.func56, Tryz.ntmps56
  go_wp2
  go_ret
  exact ⟨rfl, Below.refl _ _⟩
 have hle2 : n <= 4096 := by omega
 rw [decide_eq_true hle2]
 have hle' : ¬ 4096 < (n : Int) := by omega
 have C3 := ihq (fun w' (hb : Below w.heap.size w w') => RLoad_any A n c l w' hn hle2 (hs.below hb))
 obtain ⟨z, hz⟩ : ∃ z, y5 l = z := ⟨_, rfl⟩
 have hz1 := Y4 l
 have hz2 : 0 <= z /\ z <= 4503599627370496 := by rw [hz] at hz1; omega
 rw [hz] at C3 ⊢
 have Hs := ihq hs; have Hn := ihq hn; have Hle := ihq hle2
 clear hz hz1 hs hn hle hle2
 go_enter Tryz.func56, Tryz.ntmps56
 go_wp2
 go_loopw [5] (fun i wr => ∃ k : Nat, k <= n /\ i = .int .i64 k /\ allP (l.take k) = true /\ Below w.heap.size w wr) (fun i _ => n - (intOf i).toNat)
 case atStart => exact ⟨0, by omega, rfl, rfl, Below.refl _ _⟩
 case round =>
  obtain ⟨k, hk, rfl, hall, hb⟩ := hrel
  have Hb := ihq hb; have Hall := ihq hall
  clear hb hall
  by_cases hlt : k < n
  ·obtain ⟨g, o, p, rfl, hp, hat⟩ := Hs.out.get (k := k) (by rw [Hn.out]; exact hlt)
   have hld := zZ (hat.below Hb.out)
   have C := ihq (xA p)
   obtain ⟨r, hr⟩ : ∃ r, yc p = r := ⟨_, rfl⟩
   rw [hr] at C
   have Hr := ihq hr; have Hp := ihq hp
   clear hat hr hp
   have b0 : (0 : Int) <= (k : Int) := by omega
   have b1 : (k : Int) < (n : Int) := by omega
   obtain ⟨re, we, li, bu⟩ := p
   simp only at hld C
   cases r with
   | true =>
    go_wp2_with (go_at_call 50; refine (C.out _).mono ?_; rintro e w' ⟨rfl, hb3⟩; have Hb3 := ihq (Hb.out.trans (hb3.mono Hb.out.size)); clear hb3)
    go_roundw
    case rel => exact ⟨k + 1, by omega, by go_num, QY Hp.out Hall.out Hr.out, Hb3.out⟩
    case measure => simp [intOf]; omega
   | false =>
    go_wp2_with (go_at_call 50; refine (C.out _).mono ?_; rintro e w' ⟨rfl, hb3⟩; have Hb3 := ihq (Hb.out.trans (hb3.mono Hb.out.size)); clear hb3)
    go_ret
    exact ⟨yz (by have h := allP_no Hp.out Hr.out; simp [h]), Hb3.out⟩
  ·have hkn : k = n := by omega
   subst hkn
   have hall := Hall.out
   rw [List.take_of_length_le (by have := Hn.out; omega)] at hall
   have Hall2 := ihq hall
   clear hall
   by_cases hl : z <= picks * 16777216
   ·have hl2 : z <= 16777216 * picks := by omega
    clear hl
    go_wp2_with (go_at_call 92; refine (C3.out _ Hb.out).mono ?_; rintro e w3 ⟨rfl, hb3⟩; have Hb3 := ihq (Hb.out.trans (hb3.mono Hb.out.size)); clear hb3)
    go_ret
    exact ⟨yz (by have h := Hall2.out; simp [h] <;> omega), Hb3.out⟩
   ·have hl2 : ¬ z <= 16777216 * picks := by omega
    clear hl
    go_wp2_with (go_at_call 92; refine (C3.out _ Hb.out).mono ?_; rintro e w3 ⟨rfl, hb3⟩; have Hb3 := ihq (Hb.out.trans (hb3.mono Hb.out.size)); clear hb3)
    go_ret
    exact ⟨yz (by have h := Hall2.out; simp [h] <;> omega), Hb3.out⟩
end Go.Proofs.YteebkolccbcehaaGreat
end
