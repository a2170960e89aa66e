/-
  Joined: Fix, PolMem, VolMath, VolMem. Conditions: each theorem's own.
-/
import Derived.Test.YteebkolccbcehaaGreatRows
import Derived.WalkKit
import Derived.ProofKit
import Derived.OpenShut
import Derived.WalkLawsBesides
import Derived.WalkSpells
import Derived.Deep.QuietTactic
import Derived.BigQuiet
import Derived.Lib.Hide
import Derived.Test.YteebkolccbcehaaGreatJA
import Derived.Deep.MidRow
import Derived.Deep.WholeRow
import Derived.StillTailTactics
import Derived.BigRegion
import Derived.OwnWalk
import Derived.Deep.DeepCutAuto
import Derived.Deep.RegionLaw
import Derived.Laws.Cover3

section
set_option linter.all false
namespace Go.Proofs.YteebkolccbcehaaGreat
open Go.ChangeShapes Go.WideShapes Go.ChangeAt Go.RowKit
def inI (a : Int) : Prop := -9223372036854775808 <= a /\ a <= 9223372036854775807
theorem int_eq {a b : Int} (h : a = b) : Ending.returned (.int .i64 a) = .returned (.int .i64 b) := by rw [h]
theorem yz {a b : Bool} (h : a = b) : Ending.returned (.bool a) = .returned (.bool b) := by rw [h]
def rated (a : Int) : Prop := 1 <= a /\ a <= 1048576
theorem isRate_yes (a : Int) (w : World) (ha : rated a) :
  Calls Tryz.prog 135 #[.int .i64 a] w fun e w' => e = .returned (.bool true) /\ w = w' := by
 obtain ⟨h1, h2⟩ := ha
 go_enter Tryz.func135, Tryz.ntmps135
 go_wp2
 go_ret
 exact ⟨rfl, rfl⟩
theorem isRate_no (a : Int) (w : World) (ha : ¬ rated a) :
  Calls Tryz.prog 135 #[.int .i64 a] w fun e w' => e = .returned (.bool false) /\ w = w' := by
 by_cases h : 1 <= a
 ·have h2 : ¬ a <= 1048576 := fun h' => ha ⟨h, h'⟩
  clear ha
  go_enter Tryz.func135, Tryz.ntmps135
  go_wp2
  go_ret
  exact ⟨rfl, rfl⟩
 ·clear ha
  go_enter Tryz.func135, Tryz.ntmps135
  go_wp2
  go_ret
  exact ⟨rfl, rfl⟩
theorem divideUp_any (n d : Int) (w : World) (h1 : 1 <= n) (h2 : n <= 9223372036854775807) (h3 : 1 <= d) (h4 : d <= 9223372036854775807) :
  Calls Tryz.prog 134 #[.int .i64 n, .int .i64 d] w fun e w' => e = .returned (.int .i64 ((n - 1) / d + 1)) /\ w = w' := by
 have q0 : 0 <= (n - 1) / d := Int.ediv_nonneg (by omega) (by omega)
 have q1 : (n - 1) / d <= n - 1 := Int.ediv_le_self _ (by omega)
 have hz : (d == 0) = false := by simp; omega
 go_enter Tryz.func134, Tryz.ntmps134
 go_wp2
 go_ret
 exact ⟨rfl, rfl⟩
def xt (a : Int) : Int := if 1 <= a /\ a <= 1048576 then 65536000 / a else 0
def xJ (a : Int) : Int := if 1 <= a then 1099511627775 / a + 1 else 0
theorem space_any (a : Int) (w : World) :
  Calls Tryz.prog 112 #[.int .i64 a] w fun e w' => e = .returned (.int .i64 (xt a)) /\ w = w' := by
 by_cases h : rated a
 ·have hs : xt a = 65536000 / a := if_pos h
  rw [hs]; clear hs
  have h' := h
  obtain ⟨h1, h2⟩ := h'
  have hz : (a == 0) = false := by simp; omega
  go_enter Tryz.func112, Tryz.ntmps112
  go_wp2_with (go_at_call 135; refine (isRate_yes _ _ h).mono ?_; rintro e w' ⟨rfl, rfl⟩)
  go_ret
  exact ⟨rfl, rfl⟩
 ·have hs : xt a = 0 := if_neg h
  rw [hs]; clear hs
  go_enter Tryz.func112, Tryz.ntmps112
  go_wp2_with (go_at_call 135; refine (isRate_no _ _ h).mono ?_; rintro e w' ⟨rfl, rfl⟩)
  go_ret
  exact ⟨rfl, rfl⟩
theorem share_any (a : Int) (w : World) (ha : inI a) :
  Calls Tryz.prog 111 #[.int .i64 a] w fun e w' => e = .returned (.int .i64 (xJ a)) /\ w = w' := by
 obtain ⟨i1, i2⟩ := ha
 by_cases h : 1 <= a
 ·have hs : xJ a = 1099511627775 / a + 1 := if_pos h
  rw [hs]; clear hs
  go_enter Tryz.func111, Tryz.ntmps111
  go_wp2_with (go_at_call 134; refine (divideUp_any _ _ _ (by omega) (by omega) (by omega) (by omega)).mono ?_; rintro e w' ⟨rfl, rfl⟩)
  go_ret
  exact ⟨rfl, rfl⟩
 ·have hs : xJ a = 0 := if_neg h
  rw [hs]; clear hs
  go_enter Tryz.func111, Tryz.ntmps111
  go_wp2
  go_ret
  exact ⟨rfl, rfl⟩
theorem refSpace_any (a : Int) (w : World) :
  Calls Tryz.prog 114 #[.int .i64 a] w fun e w' => e = .returned (.int .i64 (xt a)) /\ w = w' := by
 by_cases h : rated a
 ·have hs : xt a = 65536000 / a := if_pos h
  rw [hs]; clear hs
  obtain ⟨h1, h2⟩ := h
  have hz : (a == 0) = false := by simp; omega
  go_enter Tryz.func114, Tryz.ntmps114
  go_wp2
  go_ret
  exact ⟨rfl, rfl⟩
 ·have hs : xt a = 0 := if_neg h
  rw [hs]; clear hs
  have h' : a < 1 \/ 1048576 < a := by unfold rated at h; omega
  rcases h' with h' | h'
  ·go_enter Tryz.func114, Tryz.ntmps114
   go_wp2
   go_ret
   exact ⟨rfl, rfl⟩
  ·have h3 : ¬ a < 1 := by omega
   go_enter Tryz.func114, Tryz.ntmps114
   go_wp2
   go_ret
   exact ⟨rfl, rfl⟩
theorem up_div (n d : Int) (hd : 1 <= d) : (n - 1) / d + 1 = if n / d * d < n then n / d + 1 else n / d := by
 have h1 := Int.mul_ediv_add_emod n d
 have h2 := Int.emod_nonneg n (show d ≠ 0 by omega)
 have h3 := Int.emod_lt_of_pos n (show 0 < d by omega)
 have hc : n / d * d = d * (n / d) := Int.mul_comm _ _
 split
 ·have h4 : 1 <= n % d := by omega
  have h5 : (n - 1) / d = n / d := by
   have e : n - 1 = (n % d - 1) + d * (n / d) := by omega
   rw [e, Int.add_mul_ediv_left _ _ (by omega), Int.ediv_eq_zero_of_lt (by omega) (by omega)]; omega
  omega
 ·have h4 : n % d = 0 := by omega
  have h5 : (n - 1) / d = n / d - 1 := by
   have e : n - 1 = (d - 1) + d * (n / d - 1) := by rw [Int.mul_sub]; omega
   rw [e, Int.add_mul_ediv_left _ _ (by omega), Int.ediv_eq_zero_of_lt (by omega) (by omega)]; omega
  omega
theorem refShare_any (a : Int) (w : World) (ha : inI a) :
  Calls Tryz.prog 113 #[.int .i64 a] w fun e w' => e = .returned (.int .i64 (xJ a)) /\ w = w' := by
 obtain ⟨i1, i2⟩ := ha
 by_cases h : 1 <= a
 ·have hs : xJ a = 1099511627775 / a + 1 := if_pos h
  have hz : (a == 0) = false := by simp; omega
  have q0 : 0 <= 1099511627776 / a := Int.ediv_nonneg (by omega) (by omega)
  have q1 : 1099511627776 / a <= 1099511627776 := Int.ediv_le_self _ (by omega)
  have q2 : 1099511627776 / a * a <= 1099511627776 := Int.ediv_mul_le _ (by omega)
  have q3 : 0 <= 1099511627776 / a * a := Int.mul_nonneg (by omega) (by omega)
  have hu := up_div 1099511627776 a h
  rw [hs, show (1099511627775 : Int) = 1099511627776 - 1 from rfl, hu]
  clear hs hu
  by_cases hl : 1099511627776 / a * a < 1099511627776
  ·rw [if_pos hl]
   go_enter Tryz.func113, Tryz.ntmps113
   go_wp2
   go_ret
   exact ⟨rfl, rfl⟩
  ·rw [if_neg hl]
   go_enter Tryz.func113, Tryz.ntmps113
   go_wp2
   go_ret
   exact ⟨rfl, rfl⟩
 ·have hs : xJ a = 0 := if_neg h
  rw [hs]; clear hs
  go_enter Tryz.func113, Tryz.ntmps113
  go_wp2
  go_ret
  exact ⟨rfl, rfl⟩
end Go.Proofs.YteebkolccbcehaaGreat
end

section
set_option linter.all false
namespace Go.Proofs.YteebkolccbcehaaGreat
open Go.ChangeShapes Go.WideShapes Go.ChangeAt Go.RowKit
structure Pol where
 re : Int
 we : Int
 li : Int
 bu : Int
 deriving DecidableEq
def yc (p : Pol) : Bool := decide (0 <= p.re /\ p.re <= 1048576) && decide (1 <= p.we /\ p.we <= 1024) && decide (0 <= p.li /\ p.li <= 1048576) && decide (0 <= p.bu /\ p.bu <= 1024) && decide (p.li = 0 \/ p.re <= p.li)
theorem YD (p : Pol) : yc p = true ↔ (0 <= p.re /\ p.re <= 1048576) /\ (1 <= p.we /\ p.we <= 1024) /\ (0 <= p.li /\ p.li <= 1048576) /\ (0 <= p.bu /\ p.bu <= 1024) /\ (p.li = 0 \/ p.re <= p.li) := by
 simp only [yc, Bool.and_eq_true, decide_eq_true_eq, and_assoc]
def shP (p : Pol) : Int := xJ (xt p.re)
theorem Xg (a : Int) : 0 <= xJ a /\ xJ a <= 1099511627776 := by
 unfold xJ
 split
 ·have q0 : 0 <= 1099511627775 / a := Int.ediv_nonneg (by omega) (by omega)
  have q1 : 1099511627775 / a <= 1099511627775 := Int.ediv_le_self _ (by omega)
  omega
 ·omega
theorem shP_bd (p : Pol) : 0 <= shP p /\ shP p <= 1099511627776 := Xg _
theorem QD (a : Int) : inI (xt a) := by
 unfold xt inI
 split
 ·have q0 : 0 <= 65536000 / a := Int.ediv_nonneg (by omega) (by omega)
  have q1 : 65536000 / a <= 65536000 := Int.ediv_le_self _ (by omega)
  omega
 ·omega
def y5 : List Pol -> Int
 | [] => 0
 | p :: l => shP p + y5 l
theorem loadP_append (a b : List Pol) : y5 (a ++ b) = y5 a + y5 b := by
 induction a with
 | nil => simp [y5]
 | cons p a ih => simp only [List.cons_append, y5, ih]; omega
theorem Y4 : ∀ l : List Pol, 0 <= y5 l /\ y5 l <= (l.length : Int) * 1099511627776
 | [] => ⟨Int.le_refl _, Int.le_refl _⟩
 | p :: l => by
  have h := Y4 l
  have k := shP_bd p
  simp only [y5, List.length_cons]
  omega
theorem loadP_more {l : List Pol} {k : Nat} {p : Pol} (h : l[k]? = some p) : y5 (l.take (k + 1)) = y5 (l.take k) + shP p := by
 obtain ⟨hk, rfl⟩ := List.getElem?_eq_some_iff.1 h
 rw [List.take_succ_eq_append_getElem hk, loadP_append]
 simp [y5]
theorem YB {l : List Pol} (h : l.length <= 4096) (k : Nat) : 0 <= y5 (l.take k) /\ y5 (l.take k) <= 4503599627370496 := by
 have h1 := Y4 (l.take k)
 have h2 : (l.take k).length <= 4096 := by rw [List.length_take]; omega
 omega
def allP (l : List Pol) : Bool := l.all yc
theorem QY {l : List Pol} {k : Nat} {p : Pol} (h : l[k]? = some p) (ht : allP (l.take k) = true) (hp : yc p = true) : allP (l.take (k + 1)) = true := by
 obtain ⟨hk, rfl⟩ := List.getElem?_eq_some_iff.1 h
 rw [List.take_succ_eq_append_getElem hk]
 unfold allP at ht ⊢
 rw [List.all_append, ht]
 simp [hp]
theorem allP_no {l : List Pol} {k : Nat} {p : Pol} (h : l[k]? = some p) (hp : yc p = false) : allP l = false := by
 unfold allP
 rw [List.all_eq_false]
 exact ⟨p, List.mem_of_getElem? h, by simp [hp]⟩
def yY (picks : Int) (l : List Pol) : Bool := decide (1 <= picks /\ picks <= 64) && decide (l.length <= 4096) && allP l && decide (y5 l <= picks * 16777216)
def InP (p : Pol) : Prop := In64 p.re /\ In64 p.we /\ In64 p.li /\ In64 p.bu
def Z8 (w : World) (g q : Nat) (p : Pol) : Prop :=
 w.cell? ⟨g, q, none⟩ = some (.int .i64 p.re) /\ w.cell? ⟨g, q + 1, none⟩ = some (.int .i64 p.we) /\ w.cell? ⟨g, q + 2, none⟩ = some (.int .i64 p.li) /\ w.cell? ⟨g, q + 3, none⟩ = some (.int .i64 p.bu) /\ InP p
def xj (w : World) (A : Option Addr) (l : List Pol) : Prop :=
 l = [] \/ ∃ g o, A = some ⟨g, o, none⟩ /\ ∀ i p, l[i]? = some p -> Z8 w g (o + i * 4) p
theorem Z8.below {w w' : World} {g q : Nat} {p : Pol} (h : Z8 w g q p) (hb : Below w.heap.size w w') : Z8 w' g q p := by
 obtain ⟨h1, h2, h3, h4, h5⟩ := h
 exact ⟨by rw [hb.cell (block_lt_of_cell h1)]; exact h1, by rw [hb.cell (block_lt_of_cell h2)]; exact h2, by rw [hb.cell (block_lt_of_cell h3)]; exact h3, by rw [hb.cell (block_lt_of_cell h4)]; exact h4, h5⟩
theorem xj.below {w w' : World} {A : Option Addr} {l : List Pol} (h : xj w A l) (hb : Below w.heap.size w w') : xj w' A l := by
 rcases h with rfl | ⟨g, o, hA, hc⟩
 ·exact .inl rfl
 ·exact .inr ⟨g, o, hA, fun i p hp => (hc i p hp).below hb⟩
theorem xj.nil (w : World) (A : Option Addr) : xj w A [] := .inl rfl
theorem xj.get {w : World} {A : Option Addr} {l : List Pol} (h : xj w A l) {k : Nat} (hk : k < l.length) : ∃ g o p, A = some ⟨g, o, none⟩ /\ l[k]? = some p /\ Z8 w g (o + k * 4) p := by
 rcases h with rfl | ⟨g, o, hA, hc⟩
 ·simp at hk
 ·exact ⟨g, o, l[k], hA, List.getElem?_eq_getElem hk, hc k _ (List.getElem?_eq_getElem hk)⟩
theorem xj.take {w : World} {A : Option Addr} {l : List Pol} (h : xj w A l) (k : Nat) : xj w A (l.take k) := by
 rcases h with rfl | ⟨g, o, hA, hc⟩
 ·exact .inl (by simp)
 ·refine .inr ⟨g, o, hA, fun i p hp => hc i p ?_⟩
  rw [List.getElem?_take] at hp
  split at hp
  ·exact hp
  ·cases hp
theorem xj.drop {w : World} {A : Option Addr} {l : List Pol} (h : xj w A l) {k cap : Nat} (hc : l.length <= cap) :
  xj w (if cap = k then A else A.map (·.add (k * 4))) (l.drop k) := by
 by_cases hk : l.length <= k
 ·rw [List.drop_eq_nil_of_le hk]; exact .inl rfl
 ·rw [if_neg (by omega)]
  rcases h with rfl | ⟨g, o, rfl, hc⟩
  ·simp at hk
  ·refine .inr ⟨g, o + k * 4, by simp [Addr.add_lit], fun i p hp => ?_⟩
   rw [List.getElem?_drop] at hp
   have := hc (k + i) p hp
   rwa [show o + k * 4 + i * 4 = o + (k + i) * 4 by omega]
theorem ZT {w : World} {g : Nat} {p : Pol} {t : TypeId} (h : w.heap[g]? = some (.cells #[.int .i64 p.re, .int .i64 p.we, .int .i64 p.li, .int .i64 p.bu] t (0, 0))) (hp : InP p) : Z8 w g 0 p :=
 ⟨zc h 0, zc h 1, zc h 2, zc h 3, hp⟩
theorem Yd : (Tryz.prog.info? 37).map (·.size) = some 4 := by kernel_rfl
def QO (p : Value) : Sem Value := Instr.loadAt 37 p
theorem yA (p : Value) : Instr.loadAt 37 p = QO p := rfl
theorem zZ {w : World} {g o : Nat} {p : Pol} (h : Z8 w g o p) :
  (QO (.pointer (some ⟨g, o, none⟩))).run Tryz.prog w = .ok (.agg #[.int .i64 p.re, .int .i64 p.we, .int .i64 p.li, .int .i64 p.bu]) w := by
 obtain ⟨h0, h1, h2, h3, _⟩ := h
 have hr : w.rangeAt g o [.int .i64 p.re, .int .i64 p.we, .int .i64 p.li, .int .i64 p.bu] := fun j v hv => by
  match j, hv with
  | 0, hv => simp at hv; subst hv; exact h0
  | 1, hv => simp at hv; subst hv; exact h1
  | 2, hv => simp at hv; subst hv; exact h2
  | 3, hv => simp at hv; subst hv; exact h3
 exact run_loadAt_mid w g o 37 [.int .i64 p.re, .int .i64 p.we, .int .i64 p.li, .int .i64 p.bu] _ hr Tryz.underlying37 rfl Yd
end Go.Proofs.YteebkolccbcehaaGreat
end

section
set_option linter.all false
namespace Go.Proofs.YteebkolccbcehaaGreat
open Go.ChangeShapes Go.WideShapes Go.ChangeAt Go.RowKit
structure Chk where
 id : Int
 vo : Int
 ep : Int
 ms : List Int
 js : List Int
 deriving DecidableEq
structure Vol where
 bl : Int
 p : Pol
 ver : Int
 ks : List Chk
structure St where
 pk : Nat -> Int
 vs : Nat -> Vol
 md : Int
structure Cmd where
 k : Int
 a : Int
 b : Int
 c : Int
 p : Pol
def pol0 : Pol := ⟨0, 0, 0, 0⟩
def vol0 : Vol := ⟨0, pol0, 0, []⟩
def st0 : St := ⟨fun _ => 0, fun _ => vol0, 0⟩
def setV (s : St) (i : Nat) (v : Vol) : St := { s with vs := fun j => if j = i then v else s.vs j }
theorem zE {s : St} {i : Nat} {v : Vol} : (setV s i v).vs i = v := if_pos rfl
theorem zA {s : St} {i j : Nat} {v : Vol} (h : j ≠ i) : (setV s i v).vs j = s.vs j := if_neg h
theorem QE {s : St} {i : Nat} {v u : Vol} : setV (setV s i v) i u = setV s i u := by
 unfold setV
 congr 1
 funext j
 simp only
 split <;> rfl
theorem setV_self {s : St} {i : Nat} : setV s i (s.vs i) = s := by
 obtain ⟨pk, vs, md⟩ := s
 unfold setV
 congr 1
 funext j
 simp only
 split
 ·rename_i h; rw [h]
 ·rfl
def hasK (s : Int) (k : Chk) : Bool := decide (s ∈ k.ms) || decide (s ∈ k.js)
def zm (pk : Nat -> Int) : List Nat := (List.range 16).filter fun i => decide (0 < pk i)
def Z6 (s : St) (sv : Int) : List Pol := ((List.range 64).filter fun i => (s.vs i).ks.any (hasK sv)).map fun i => (s.vs i).p
def admS (s : St) : Bool := (zm s.pk).all fun i => yY (s.pk i) (Z6 s i)
def zx (b : Int) : Int := (b + 7) / 8
def z8 (l : List Chk) : List Int := l.flatMap fun k => k.ms ++ k.js
def zX (s : St) (n : Nat) : List Chk := (List.range n).flatMap fun i => (s.vs i).ks
theorem YJ (s : St) (n : Nat) : zX s (n + 1) = zX s n ++ (s.vs n).ks := by simp [zX, List.range_succ]
theorem xo (a b : List Chk) : z8 (a ++ b) = z8 a ++ z8 b := by simp [z8]
def yL (f : Nat -> Nat) (a b : Nat) : Bool := decide (f a < f b) || (decide (f a = f b) && decide (a <= b))
def fewF (f : Nat -> Nat) (ids : List Nat) (n : Nat) : List Nat := (ids.mergeSort (yL f)).take n
def toI (l : List Nat) : List Int := l.map fun (x : Nat) => (x : Int)
def yo (ids : List Nat) (vo : Int) (copies : Nat) (md : Int) (hv : List Int) : Nat -> List Chk
 | 0 => []
 | n + 1 => yo ids vo copies md hv n ++ [⟨md + n + 1, vo, 1, toI (fewF (fun i => (hv ++ z8 (yo ids vo copies md hv n)).count (i : Int)) ids copies), []⟩]
def xe (s : St) (i : Nat) (copies n : Nat) : St :=
 { setV s i { s.vs i with ks := (s.vs i).ks ++ yo (zm s.pk) (i : Int) copies s.md (z8 (zX s 64)) n } with md := s.md + n }
def xz (s : St) (i : Nat) (copies : Nat) : St := xe s i copies ((zx (s.vs i).bl).toNat - (s.vs i).ks.length)
def Z3 (s : St) (id : Int) (i j : Nat) (k : Chk) : Prop := i < 64 /\ (s.vs i).ks[j]? = some k /\ k.id = id
def NoChunk (s : St) (id : Int) : Prop := ∀ i, i < 64 -> ∀ k ∈ (s.vs i).ks, k.id ≠ id
def yB (s : St) (a : Int) : Bool := decide (0 <= a /\ a <= 63) && decide ((s.vs a.toNat).bl ≠ 0)
def xr (s : St) (a : Int) : Bool := decide (0 <= a /\ a <= 15) && decide (0 < s.pk a.toNat)
def zl (l : List Int) (x : Int) : List Int := l.filter fun y => !decide (y = x)
def YE (s : St) (i j : Nat) (k : Chk) : St := setV s i { s.vs i with ks := (s.vs i).ks.set j { k with ep := k.ep + 1 } }
def xL (s : St) (id : Int) : Option (Nat × Nat × Chk) :=
 (List.range 64).findSome? fun i => ((s.vs i).ks.findIdx? fun k => decide (k.id = id)).bind fun j => ((s.vs i).ks[j]?).map fun k => (i, j, k)
theorem xp {s : St} {id : Int} {i j : Nat} {k : Chk} (h : xL s id = some (i, j, k)) : Z3 s id i j k := by
 unfold xL at h
 obtain ⟨n, hn, h⟩ := List.exists_of_findSome?_eq_some h
 rw [List.mem_range] at hn
 cases hf : (s.vs n).ks.findIdx? (fun k => decide (k.id = id)) with
 | none => simp [hf] at h
 | some m =>
  rw [hf] at h
  simp only [Option.bind_some, Option.map_eq_some_iff, Prod.mk.injEq] at h
  obtain ⟨k', hk, rfl, rfl, rfl⟩ := h
  rw [List.findIdx?_eq_some_iff_getElem] at hf
  obtain ⟨hlt, hp, _⟩ := hf
  obtain ⟨_, e⟩ := List.getElem?_eq_some_iff.1 hk
  refine ⟨hn, hk, ?_⟩
  rw [<- e]
  simpa using hp
theorem X2 {s : St} {id : Int} (h : xL s id = none) : NoChunk s id := by
 intro i hi k hk e
 unfold xL at h
 rw [List.findSome?_eq_none_iff] at h
 have := h i (List.mem_range.2 hi)
 cases hf : (s.vs i).ks.findIdx? (fun k => decide (k.id = id)) with
 | none =>
  rw [List.findIdx?_eq_none_iff] at hf
  have := hf k hk
  simp [e] at this
 | some m =>
  rw [hf] at this
  rw [List.findIdx?_eq_some_iff_getElem] at hf
  obtain ⟨hlt, hp, _⟩ := hf
  simp [List.getElem?_eq_getElem hlt] at this
def xF (c : Cmd) (k : Chk) : Chk ⊕ Int :=
 if c.k = 6 then
  if hasK c.c k = false then .inr 1 else if k.ms = [c.c] then .inr 9 else .inl { k with ms := zl k.ms c.c, js := zl k.js c.c }
 else if c.k = 7 then
  if hasK c.c k = true then .inr 8 else if 4 <= k.ms.length + k.js.length then .inr 6 else .inl { k with js := k.js ++ [c.c] }
 else
  if c.c ∈ k.js then .inl { k with ms := k.ms ++ [c.c], js := zl k.js c.c } else .inr 1
def xK (s : St) (c : Cmd) : St × Int :=
 if c.k = 7 /\ xr s c.c = false then (s, 7) else
 match xL s c.a with
 | none => (s, 7)
 | some (i, j, k) => if k.ep ≠ c.b then (s, 10) else
  match xF c k with
  | .inr e => (s, e)
  | .inl k' => (YE s i j k', 0)
def areB (b : Int) : Bool := decide (1 <= b /\ b <= 512)
def doS (s : St) (c : Cmd) : St × Int :=
 if c.k = 1 then
  if decide (0 <= c.a /\ c.a <= 15) && decide (1 <= c.b /\ c.b <= 64) then ({ s with pk := fun i => if (i : Int) = c.a then c.b else s.pk i }, 0) else (s, 1)
 else if c.k = 2 then
  if !(decide (0 <= c.a /\ c.a <= 63) && areB c.b && decide (1 <= c.c /\ c.c <= 3) && yc c.p) then (s, 1)
  else if (s.vs c.a.toNat).bl > 0 then (s, 8)
  else if ((zm s.pk).length : Int) < c.c then (s, 7)
  else (xz (setV s c.a.toNat ⟨c.b, c.p, 1, []⟩) c.a.toNat c.c.toNat, 0)
 else if c.k = 3 then
  if yB s c.a then (setV s c.a.toNat vol0, 0) else (s, 7)
 else if c.k = 4 then
  if areB c.b = false then (s, 1) else if yB s c.a = false then (s, 7)
  else
   let v := s.vs c.a.toNat
   let u : Vol := { v with bl := c.b, ks := v.ks.take (zx c.b).toNat }
   (xz (setV s c.a.toNat u) c.a.toNat (match u.ks with | k :: _ => k.ms.length | [] => 0), 0)
 else if c.k = 5 then
  if yc c.p = false then (s, 1) else if yB s c.a = false then (s, 7)
  else
   let v := s.vs c.a.toNat
   (setV s c.a.toNat { v with p := c.p, ver := v.ver + 1 }, 0)
 else xK s c
def yR (s : St) (c : Cmd) : St × Int :=
 if 1 <= c.k /\ c.k <= 8 then
  if (doS s c).2 ≠ 0 then (s, (doS s c).2) else if admS (doS s c).1 then ((doS s c).1, 0) else (s, 14)
 else (s, 22)
structure Z4 (k : Chk) : Prop where
 id : 0 <= k.id /\ k.id <= 35184372088832
 vo : 0 <= k.vo /\ k.vo <= 63
 ep : 0 <= k.ep /\ k.ep <= 35184372088832
 ml : k.ms.length <= 16
 jl : k.js.length <= 16
 ms : ∀ x ∈ k.ms, 0 <= x /\ x <= 15
 js : ∀ x ∈ k.js, 0 <= x /\ x <= 15
structure Xo (v : Vol) : Prop where
 bl : 0 <= v.bl /\ v.bl <= 512
 p : InP v.p
 ver : 0 <= v.ver /\ v.ver <= 35184372088832
 kl : v.ks.length <= 64
 ks : ∀ k ∈ v.ks, Z4 k
structure yF (s : St) : Prop where
 pk : ∀ i, i < 16 -> 0 <= s.pk i /\ s.pk i <= 9223372036854775807
 vs : ∀ i, i < 64 -> Xo (s.vs i)
 md : 0 <= s.md /\ s.md <= 35184372088832
end Go.Proofs.YteebkolccbcehaaGreat
end

section
set_option linter.all false
namespace Go.Proofs.YteebkolccbcehaaGreat
open Go.ChangeShapes Go.WideShapes Go.ChangeAt Go.RowKit
structure Sl where
 A : Option Addr
 n : Nat
 c : Nat
def Sl.v (s : Sl) : Value := .slice s.A s.n s.c
def Sl.nil : Sl := ⟨none, 0, 0⟩
def NoT (w : World) (T : TypeId) (p : Nat -> Prop) : Prop := ∀ k cs fr, p k -> w.heap[k]? ≠ some (.cells cs T fr)
theorem NoT.no (w : World) (T : TypeId) : NoT w T (fun _ => False) := fun _ _ _ e => e.elim
def yP (w : World) (T : TypeId) (A : Option Addr) (xs : List Value) : Prop :=
 Seen w A xs /\ (xs = [] \/ ∃ g o cs fr, A = some ⟨g, o, none⟩ /\ w.heap[g]? = some (.cells cs T fr))
theorem yP.turned {p : Nat -> Prop} {w w' : World} {T : TypeId} {A : Option Addr} {xs : List Value} (h : yP w T A xs) (ht : Turned p w w') (hp : NoT w T p) : yP w' T A xs := by
 obtain ⟨h1, h2⟩ := h
 rcases h2 with rfl | ⟨g, o, cs, fr, rfl, hg⟩
 ·exact ⟨.inl rfl, .inl rfl⟩
 ·have hn : ¬ p g := fun e => hp g cs fr e hg
  exact ⟨ht.seen h1 (fun g' o' e => by injection e with e; injection e with e; subst e; exact hn), .inr ⟨g, o, cs, fr, rfl, ht.heap hg hn⟩⟩
theorem yP.below {w w' : World} {T : TypeId} {A : Option Addr} {xs : List Value} (h : yP w T A xs) (hb : Below w.heap.size w w') : yP w' T A xs := h.turned (p := fun _ => False) (.of_below hb) (NoT.no w T)
theorem yP.nil (w : World) (T : TypeId) (A : Option Addr) : yP w T A [] := ⟨.inl rfl, .inl rfl⟩
theorem yP.take {w : World} {T : TypeId} {A : Option Addr} {xs : List Value} (h : yP w T A xs) (k : Nat) : yP w T A (xs.take k) := by
 refine ⟨h.1.take k, ?_⟩
 rcases h.2 with rfl | h2
 ·exact .inl (by simp)
 ·exact .inr h2
theorem Xi {w : World} {base : Nat} {e : TypeId} {z : Nat} {v : Value} {n : Nat} {xs : List Value} (h : w.ownsRow base e z v n xs) : ∃ A c, v = .slice A n c := by
 rcases h.2 with ⟨rfl, rfl⟩ | ⟨g, cap, cur, rfl, _⟩
 ·exact ⟨_, _, rfl⟩
 ·exact ⟨_, _, rfl⟩
theorem ze {p : Nat -> Prop} {w w' : World} {base z : Nat} {e : TypeId} {v : Value} {n : Nat} {xs : List Value} (h : Turned p w w') (ho : w.ownsRow base e z v n xs) (hn : ∀ k, v.ownBlock = some k -> ¬ p k) : w'.ownsRow base e z v n xs := by
 refine ⟨ho.1, ?_⟩
 rcases ho.2 with h2 | ⟨g, cap, cur, rfl, hg, hh, r⟩
 ·exact .inl h2
 ·exact .inr ⟨g, cap, cur, rfl, hg, h.heap hh (hn g rfl), r⟩
theorem zh {w w' : World} {b : Nat} {e : TypeId} {z : Nat} {v : Value} {n : Nat} {xs : List Value} (h : w.ownsRow b e z v n xs) (hb : Below w.heap.size w w') : w'.ownsRow b e z v n xs := ze (Turned.of_below (p := fun _ => False) hb) h fun _ _ e => e
theorem zY {w : World} {b b' : Nat} {e : TypeId} {z : Nat} {v : Value} {n : Nat} {xs : List Value} (h : w.ownsRow b e z v n xs) (hb : b' <= b) : w.ownsRow b' e z v n xs := by
 refine ⟨h.1, ?_⟩
 rcases h.2 with h2 | ⟨g, cap, cur, rfl, hg, r⟩
 ·exact .inl h2
 ·exact .inr ⟨g, cap, cur, rfl, by omega, r⟩
theorem zD {w : World} {base z n : Nat} {e : TypeId} {v : Value} {xs : List Value} (h : w.ownsRow base e z v n xs) {k : Nat} (hk : v.ownBlock = some k) : ∃ cs, w.heap[k]? = some (.cells cs e (0, 0)) := by
 rcases h.2 with ⟨rfl, _⟩ | ⟨g, cap, cur, rfl, _, hh, _⟩
 ·cases hk
 ·injection hk with hk
  subst hk
  exact ⟨cur, hh⟩
theorem yw {w : World} {base z n c : Nat} {A : Option Addr} {e : TypeId} {xs : List Value} (h : w.ownsRow base e z (.slice A n c) n xs) : n <= c /\ c <= maxLen := by
 rcases h.2 with ⟨hv, _⟩ | ⟨g', cap, cur, hv, _, _, h1, h2, _⟩
 ·injection hv with h1 h2 h3
  subst h2; subst h3
  exact ⟨Nat.le_refl _, Nat.zero_le _⟩
 ·injection hv with _ _ h3
  subst h3
  exact ⟨h1, h2⟩
theorem ye {w : World} {base z n c : Nat} {A : Option Addr} {e : TypeId} {xs : List Value} (h : w.ownsRow base e z (.slice A n c) n xs) : Seen w A xs := by
 rcases h.2 with ⟨hv, hn⟩ | ⟨g, cap, cur, hv, _, hh, h1, h2, h3, h4⟩
 ·refine .inl ?_
  have := h.1
  exact List.length_eq_zero_iff.1 (by rw [this, hn]; simp)
 ·injection hv with hA _ _
  refine .inr ⟨g, 0, hA, fun j v hj => ?_⟩
  have hjl := (List.getElem?_eq_some_iff.1 hj).1
  rw [Nat.zero_add, zc hh]
  rw [<- h4, List.getElem?_take] at hj
  split at hj
  ·simpa using hj
  ·cases hj
theorem yP.own {w : World} {base z n c : Nat} {A : Option Addr} {T : TypeId} {xs : List Value} (h : w.ownsRow base T z (.slice A n c) n xs) : yP w T A xs := by
 refine ⟨ye h, ?_⟩
 rcases h.2 with ⟨hv, hn⟩ | ⟨g, cap, cur, hv, _, hh, _⟩
 ·refine .inl ?_
  have := h.1
  exact List.length_eq_zero_iff.1 (by rw [this, hn]; simp)
 ·injection hv with hA _ _
  exact .inr ⟨g, 0, cur, _, hA, hh⟩
structure zQ (w : World) (s : Sl) (us : List Int) : Prop where
 len : us.length = s.n
 cap : s.n <= s.c
 max : s.c <= maxLen
 see : yP w 3 s.A (zo us)
theorem zQ.turned {p : Nat -> Prop} {w w' : World} {s : Sl} {us : List Int} (h : zQ w s us) (ht : Turned p w w') (hp : NoT w 3 p) : zQ w' s us := ⟨h.len, h.cap, h.max, h.see.turned ht hp⟩
theorem zQ.below {w w' : World} {s : Sl} {us : List Int} (h : zQ w s us) (hb : Below w.heap.size w w') : zQ w' s us := ⟨h.len, h.cap, h.max, h.see.below hb⟩
theorem zQ.nil (w : World) : zQ w Sl.nil [] := ⟨rfl, Nat.le_refl _, Nat.zero_le _, yP.nil _ _ _⟩
theorem zQ.own {w : World} {base n c : Nat} {A : Option Addr} {us : List Int} (h : w.ownsRow base 3 1 (.slice A n c) n (zo us)) : zQ w ⟨A, n, c⟩ us := by
 refine ⟨?_, (yw h).1, (yw h).2, yP.own h⟩
 have := h.1
 rw [zz] at this
 simpa using this
structure Ck where
 id : Int
 vo : Int
 ep : Int
 m : Sl
 j : Sl
 ms : List Int
 js : List Int
def Ck.dat (k : Ck) : Chk := ⟨k.id, k.vo, k.ep, k.ms, k.js⟩
def ckC (k : Ck) : List Value := [.int .i64 k.id, .int .i64 k.vo, .int .i64 k.ep, .slice k.m.A k.m.n k.m.c, .slice k.j.A k.j.n k.j.c]
def cksV (X : List Ck) : List Value := X.flatMap ckC
theorem xc (X Y : List Ck) : cksV (X ++ Y) = cksV X ++ cksV Y := by simp [cksV]
theorem xC (k : Ck) : cksV [k] = ckC k := by simp [cksV]
theorem yt (X : List Ck) : (cksV X).length = X.length * 5 := by
 induction X with
 | nil => rfl
 | cons p r ih =>
  have : (cksV (p :: r)).length = 5 + (cksV r).length := by simp [cksV, ckC]; omega
  rw [this, ih, List.length_cons]; omega
theorem Qd : ∀ {X : List Ck} {i : Nat} {p : Ck}, X[i]? = some p -> (cksV X)[i * 5]? = some (.int .i64 p.id) /\ (cksV X)[i * 5 + 1]? = some (.int .i64 p.vo) /\ (cksV X)[i * 5 + 2]? = some (.int .i64 p.ep) /\ (cksV X)[i * 5 + 3]? = some (.slice p.m.A p.m.n p.m.c) /\ (cksV X)[i * 5 + 4]? = some (.slice p.j.A p.j.n p.j.c)
 | [], _, _, h => by simp at h
 | q :: r, 0, p, h => by
  simp at h
  subst h
  exact ⟨rfl, rfl, rfl, rfl, rfl⟩
 | q :: r, i + 1, p, h => by
  have := Qd (X := r) (i := i) (p := p) (by simpa using h)
  have e1 : (i + 1) * 5 = (i * 5) + 1 + 1 + 1 + 1 + 1 := by omega
  rw [e1]
  exact this
theorem zV (X : List Ck) : ∀ u ∈ cksV X, u.oneCell' = true := by
 intro u hu
 simp only [cksV, List.mem_flatMap, ckC, List.mem_cons, List.not_mem_nil, or_false] at hu
 obtain ⟨p, _, rfl | rfl | rfl | rfl | rfl⟩ := hu <;> rfl
theorem cksV_take (X : List Ck) (i : Nat) : (cksV X).take (i * 5) = cksV (X.take i) := by
 by_cases h : i <= X.length
 ·have e : cksV X = cksV (X.take i) ++ cksV (X.drop i) := by rw [<- xc, List.take_append_drop]
  rw [e, List.take_append_of_le_length (by rw [yt, List.length_take]; omega), List.take_of_length_le (by rw [yt, List.length_take]; omega)]
 ·rw [List.take_of_length_le (by rw [yt]; omega), List.take_of_length_le (by omega)]
structure CkOk (w : World) (k : Ck) : Prop where
 m : zQ w k.m k.ms
 j : zQ w k.j k.js
theorem CkOk.turned {p : Nat -> Prop} {w w' : World} {k : Ck} (h : CkOk w k) (ht : Turned p w w') (hp : NoT w 3 p) : CkOk w' k := ⟨h.m.turned ht hp, h.j.turned ht hp⟩
theorem CkOk.below {w w' : World} {k : Ck} (h : CkOk w k) (hb : Below w.heap.size w w') : CkOk w' k := ⟨h.m.below hb, h.j.below hb⟩
structure KsT (w : World) (s : Sl) (X : List Ck) : Prop where
 len : X.length = s.n
 cap : s.n <= s.c
 max : s.c <= maxLen
 see : yP w 82 s.A (cksV X)
 ok : ∀ k ∈ X, CkOk w k
theorem KsT.turned {p : Nat -> Prop} {w w' : World} {s : Sl} {X : List Ck} (h : KsT w s X) (ht : Turned p w w') (hi : NoT w 3 p) (hc : NoT w 82 p) : KsT w' s X := ⟨h.len, h.cap, h.max, h.see.turned ht hc, fun k hk => (h.ok k hk).turned ht hi⟩
theorem KsT.below {w w' : World} {s : Sl} {X : List Ck} (h : KsT w s X) (hb : Below w.heap.size w w') : KsT w' s X := ⟨h.len, h.cap, h.max, h.see.below hb, fun k hk => (h.ok k hk).below hb⟩
theorem KsT.nil (w : World) : KsT w Sl.nil [] := ⟨rfl, Nat.le_refl _, Nat.zero_le _, yP.nil _ _ _, fun k hk => by cases hk⟩
structure CkAt (w : World) (g q : Nat) (k : Ck) : Prop where
 c0 : w.cell? ⟨g, q, none⟩ = some (.int .i64 k.id)
 c1 : w.cell? ⟨g, q + 1, none⟩ = some (.int .i64 k.vo)
 c2 : w.cell? ⟨g, q + 2, none⟩ = some (.int .i64 k.ep)
 c3 : w.cell? ⟨g, q + 3, none⟩ = some (.slice k.m.A k.m.n k.m.c)
 c4 : w.cell? ⟨g, q + 4, none⟩ = some (.slice k.j.A k.j.n k.j.c)
theorem CkAt.below {w w' : World} {g q : Nat} {k : Ck} (h : CkAt w g q k) (hb : Below w.heap.size w w') : CkAt w' g q k := by
 obtain ⟨h0, h1, h2, h3, h4⟩ := h
 exact ⟨by rw [hb.cell (block_lt_of_cell h0)]; exact h0, by rw [hb.cell (block_lt_of_cell h1)]; exact h1, by rw [hb.cell (block_lt_of_cell h2)]; exact h2, by rw [hb.cell (block_lt_of_cell h3)]; exact h3, by rw [hb.cell (block_lt_of_cell h4)]; exact h4⟩
theorem KsT.get {w : World} {s : Sl} {X : List Ck} (h : KsT w s X) {i : Nat} {k : Ck} (hk : X[i]? = some k) : ∃ g o, s.A = some ⟨g, o, none⟩ /\ CkAt w g (o + i * 5) k := by
 obtain ⟨e0, e1, e2, e3, e4⟩ := Qd hk
 rcases h.see.1 with h | ⟨g, o, hA, hc⟩
 ·rw [h] at e0; cases e0
 ·exact ⟨g, o, hA, by rw [hc _ _ e0], by rw [Nat.add_assoc, hc _ _ e1], by rw [Nat.add_assoc, hc _ _ e2], by rw [Nat.add_assoc, hc _ _ e3], by rw [Nat.add_assoc, hc _ _ e4]⟩
theorem CkAt.of_row {w : World} {g : Nat} {k : Ck} {t : TypeId} (h : w.heap[g]? = some (.cells #[.int .i64 k.id, .int .i64 k.vo, .int .i64 k.ep, .slice k.m.A k.m.n k.m.c, .slice k.j.A k.j.n k.j.c] t (0, 0))) : CkAt w g 0 k :=
 ⟨zc h 0, zc h 1, zc h 2, zc h 3, zc h 4⟩
theorem ZE : (Tryz.prog.info? 82).map (·.size) = some 5 := by kernel_rfl
theorem yI : (Tryz.prog.info? 82).map (fun i => (i.zero, i.size, i.bytes)) = some (some (.agg #[.int .i64 0, .int .i64 0, .int .i64 0, .slice none 0 0, .slice none 0 0]), 5, 72) := by kernel_rfl
def ldCk (p : Value) : Sem Value := Instr.loadAt 82 p
theorem yd (p : Value) : Instr.loadAt 82 p = ldCk p := rfl
theorem zC {w : World} {g o : Nat} {k : Ck} (h : CkAt w g o k) :
  (ldCk (.pointer (some ⟨g, o, none⟩))).run Tryz.prog w = .ok (.agg #[.int .i64 k.id, .int .i64 k.vo, .int .i64 k.ep, .slice k.m.A k.m.n k.m.c, .slice k.j.A k.j.n k.j.c]) w := by
 have hr : w.rangeAt g o [.int .i64 k.id, .int .i64 k.vo, .int .i64 k.ep, .slice k.m.A k.m.n k.m.c, .slice k.j.A k.j.n k.j.c] := fun j v hv => by
  match j, hv with
  | 0, hv => simp at hv; subst hv; exact h.c0
  | 1, hv => simp at hv; subst hv; exact h.c1
  | 2, hv => simp at hv; subst hv; exact h.c2
  | 3, hv => simp at hv; subst hv; exact h.c3
  | 4, hv => simp at hv; subst hv; exact h.c4
 exact run_loadAt_mid w g o 82 [.int .i64 k.id, .int .i64 k.vo, .int .i64 k.ep, .slice k.m.A k.m.n k.m.c, .slice k.j.A k.j.n k.j.c] _ hr Tryz.underlying82 rfl ZE
theorem Zc (w : World) (k : Ck) : ∃ W, w.alloc (.cells #[.int .i64 k.id, .int .i64 k.vo, .int .i64 k.ep, .slice k.m.A k.m.n k.m.c, .slice k.j.A k.j.n k.j.c] 82) = W /\ Below w.heap.size w W /\ W.heap[w.heap.size]? = some (.cells #[.int .i64 k.id, .int .i64 k.vo, .int .i64 k.ep, .slice k.m.A k.m.n k.m.c, .slice k.j.A k.j.n k.j.c] 82 (0, 0)) :=
 ⟨_, rfl, (Below.refl _ _).alloc (Nat.le_refl _) _, heap_alloc_new _ _⟩
structure StC (w : World) (g : Nat) (cs : Array Value) (s : St) (K : Nat -> Sl) (X : Nat -> List Ck) : Prop where
 row : w.heap[g]? = some (.cells cs 57 (0, 0))
 size : cs.size = 465
 pk : ∀ i, i < 16 -> cs[i]? = some (.int .i64 (s.pk i))
 c0 : ∀ i, i < 64 -> cs[16 + i * 7]? = some (.int .i64 (s.vs i).bl)
 c1 : ∀ i, i < 64 -> cs[16 + i * 7 + 1]? = some (.int .i64 (s.vs i).p.re)
 c2 : ∀ i, i < 64 -> cs[16 + i * 7 + 2]? = some (.int .i64 (s.vs i).p.we)
 c3 : ∀ i, i < 64 -> cs[16 + i * 7 + 3]? = some (.int .i64 (s.vs i).p.li)
 c4 : ∀ i, i < 64 -> cs[16 + i * 7 + 4]? = some (.int .i64 (s.vs i).p.bu)
 c5 : ∀ i, i < 64 -> cs[16 + i * 7 + 5]? = some (.int .i64 (s.vs i).ver)
 c6 : ∀ i, i < 64 -> cs[16 + i * 7 + 6]? = some (.slice (K i).A (K i).n (K i).c)
 md : cs[464]? = some (.int .i64 s.md)
 ks : ∀ i, i < 64 -> KsT w (K i) (X i)
 dat : ∀ i, i < 64 -> (X i).map Ck.dat = (s.vs i).ks
def StAt (w : World) (g : Nat) (s : St) : Prop := ∃ cs K X, StC w g cs s K X
def NoCk (w : World) (p : Nat -> Prop) : Prop := NoT w 3 p /\ NoT w 82 p
theorem NoCk.no (w : World) : NoCk w (fun _ => False) := ⟨NoT.no _ _, NoT.no _ _⟩
theorem StC.turned {p : Nat -> Prop} {w w' : World} {g : Nat} {cs : Array Value} {s : St} {K : Nat -> Sl} {X : Nat -> List Ck} (h : StC w g cs s K X) (ht : Turned p w w') (hg : ¬ p g) (hn : NoCk w p) : StC w' g cs s K X :=
 ⟨ht.heap h.row hg, h.size, h.pk, h.c0, h.c1, h.c2, h.c3, h.c4, h.c5, h.c6, h.md, fun i hi => (h.ks i hi).turned ht hn.1 hn.2, h.dat⟩
theorem StC.below {w w' : World} {g : Nat} {cs : Array Value} {s : St} {K : Nat -> Sl} {X : Nat -> List Ck} (h : StC w g cs s K X) (hb : Below w.heap.size w w') : StC w' g cs s K X := h.turned (p := fun _ => False) (.of_below hb) id (NoCk.no w)
theorem StAt.turned {p : Nat -> Prop} {w w' : World} {g : Nat} {s : St} (h : StAt w g s) (ht : Turned p w w') (hg : ¬ p g) (hn : NoCk w p) : StAt w' g s := by
 obtain ⟨cs, K, X, h⟩ := h
 exact ⟨cs, K, X, h.turned ht hg hn⟩
theorem StAt.below {w w' : World} {g : Nat} {s : St} (h : StAt w g s) (hb : Below w.heap.size w w') : StAt w' g s := h.turned (p := fun _ => False) (.of_below hb) id (NoCk.no w)
theorem StC.lt {w : World} {g : Nat} {cs : Array Value} {s : St} {K : Nat -> Sl} {X : Nat -> List Ck} (h : StC w g cs s K X) : g < w.heap.size := (Array.getElem?_eq_some_iff.1 h.row).1
theorem StAt.lt {w : World} {g : Nat} {s : St} (h : StAt w g s) : g < w.heap.size := by
 obtain ⟨cs, K, X, h⟩ := h
 exact h.lt
theorem StC.noCk {w : World} {g : Nat} {cs : Array Value} {s : St} {K : Nat -> Sl} {X : Nat -> List Ck} (h : StC w g cs s K X) : NoCk w (fun k => k = g) := by
 refine ⟨fun k cs' fr hk e => ?_, fun k cs' fr hk e => ?_⟩
 ·subst hk
  rw [h.row] at e
  injection e with e
  injection e with _ e
  exact absurd e (by decide)
 ·subst hk
  rw [h.row] at e
  injection e with e
  injection e with _ e
  exact absurd e (by decide)
theorem StC.len {w : World} {g : Nat} {cs : Array Value} {s : St} {K : Nat -> Sl} {X : Nat -> List Ck} (h : StC w g cs s K X) {i : Nat} (hi : i < 64) : (s.vs i).ks.length = (K i).n := by
 rw [<- h.dat i hi, List.length_map, (h.ks i hi).len]
theorem StC.cell {w : World} {g : Nat} {cs : Array Value} {s : St} {K : Nat -> Sl} {X : Nat -> List Ck} (h : StC w g cs s K X) (j : Nat) : w.cell? ⟨g, j, none⟩ = cs[j]? := zc h.row j
end Go.Proofs.YteebkolccbcehaaGreat
end
