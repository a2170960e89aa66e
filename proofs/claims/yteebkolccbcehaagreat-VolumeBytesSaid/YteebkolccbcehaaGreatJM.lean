/-
  Joined: Same, Ref01, PackMath, PackW, PackN, PackR. Conditions: each theorem's own.
-/
import Derived.Test.YteebkolccbcehaaGreatRows
import Derived.Test.YteebkolccbcehaaGreatJA
import Derived.WalkLawsBesides
import Derived.WalkSpells
import Derived.Deep.QuietTactic
import Derived.BigQuiet
import Derived.Deep.LoopGhost
import Derived.OwnWalk
import Derived.IntWalk

section
set_option linter.all false
namespace Go.Proofs.YteebkolccbcehaaGreat
open Go.ChangeShapes Go.WideShapes Go.ChangeAt Go.RowKit
theorem u8_info : (Tryz.prog.info? 5).map (fun i => (i.zero, i.size, i.bytes)) = some (some (.int .u8 0), 1, 1) := by kernel_rfl
theorem i64_eq {a b : Int} (h : a = b) : Ending.returned (.int .i64 a) = .returned (.int .i64 b) := by rw [h]
theorem Zx {a b : Bool} (h : a = b) : Ending.returned (.bool a) = .returned (.bool b) := by rw [h]
theorem Same_any (A C : Option Addr) (n m c d : Nat) (xs ys : List UInt8) (w : World) (hn : xs.length = n) (hm : ys.length = m) (ha : Seen w A (zT xs)) (hb : Seen w C (zT ys)) (hl : n <= 9223372036854775807) :
  Calls Tryz.prog 13 #[.slice A n c, .slice C m d] w fun e w' => e = .returned (.bool (decide (xs = ys))) /\ Below w.heap.size w w' := by
 have Ha := ihq ha; clear ha
 have Hb := ihq hb; clear hb
 by_cases hnm : n = m
 ·subst hnm
  go_enter Tryz.func13, Tryz.ntmps13
  go_wp2
  go_loopw [5] (fun i wr => ∃ k : Nat, k <= n /\ i = .int .i64 k /\ Below w.heap.size w wr /\ xs.take k = ys.take k) (fun i _ => n - (intOf i).toNat)
  case atStart => exact ⟨0, by omega, rfl, Below.refl _ _, rfl⟩
  case round =>
   obtain ⟨k, hk, rfl, hbw, htk⟩ := hrel
   have Hbw := ihq hbw
   have Htk := ihq htk
   clear htk
   by_cases hlt : k < n
   ·obtain ⟨g, o, x, rfl, hx, hxt, hc⟩ := Ha.out.byteAt (j := k) (by omega)
    obtain ⟨g2, o2, y, rfl, hy, hyt, hc2⟩ := Hb.out.byteAt (j := k) (by omega)
    rw [<- hbw.cell (p := ⟨g, o + k, none⟩) (block_lt_of_cell hc)] at hc
    rw [<- hbw.cell (p := ⟨g2, o2 + k, none⟩) (block_lt_of_cell hc2)] at hc2
    clear hbw
    have Hx := ihq (And.intro hx hxt); clear hx hxt
    have Hy := ihq (And.intro hy hyt); clear hy hyt
    have b0 : (0 : Int) <= (k : Int) := by omega
    have b1 : (k : Int) < (n : Int) := by omega
    have Hn := ihq hn; clear hn
    have Hm := ihq hm; clear hm
    by_cases he : x = y
    ·have hq : (((x.toNat : Nat) : Int) != ((y.toNat : Nat) : Int)) = false := by rw [he]; simp
     have He := ihq he; clear he
     go_wp2
     go_quiet (fail)
     go_wp2
     go_roundw
     case rel => exact ⟨k + 1, by omega, by go_num, yi Hbw.out _, by rw [Hx.out.2, Hy.out.2, Htk.out, He.out]⟩
     case measure => simp [intOf]; omega
    ·have hq : (((x.toNat : Nat) : Int) != ((y.toNat : Nat) : Int)) = true := by simp; exact fun e => he (UInt8.toNat_inj.1 (by omega))
     have He := ihq he; clear he
     go_wp2
     go_quiet (fail)
     go_wp2
     go_ret
     exact ⟨Zx (by rw [decide_eq_false]; intro e; have h1 := Hx.out.1; rw [e, Hy.out.1] at h1; injection h1 with h1; exact He.out h1.symm), yi Hbw.out _⟩
   ·have hkn : k = n := by omega
    subst hkn
    have Hn := ihq hn; clear hn
    have Hm := ihq hm; clear hm
    go_wp2
    go_ret
    exact ⟨Zx (by have h := Htk.out; rw [List.take_of_length_le (by have := Hn.out; omega), List.take_of_length_le (by have := Hm.out; omega)] at h; rw [decide_eq_true h]), Hbw.out⟩
 ·go_enter Tryz.func13, Tryz.ntmps13
  go_wp2
  go_ret
  exact ⟨Zx (by rw [decide_eq_false]; intro e; rw [e] at hn; omega), Below.refl _ _⟩
end Go.Proofs.YteebkolccbcehaaGreat
end

section
set_option linter.all false
namespace Go.Proofs.YteebkolccbcehaaGreat
open Go.ChangeShapes Go.WideShapes Go.ChangeAt Go.RowKit
end Go.Proofs.YteebkolccbcehaaGreat
end

section
set_option linter.all false
namespace Go.Proofs.YteebkolccbcehaaGreat
def numB (n : Nat) : List UInt8 := if n < 128 then [UInt8.ofNat n] else UInt8.ofNat (n % 128 + 128) :: numB (n / 128)
termination_by n
decreasing_by omega
theorem ZC {n : Nat} (h : n < 128) : numB n = [UInt8.ofNat n] := by rw [numB, if_pos h]
theorem ZV {n : Nat} (h : ¬ n < 128) : numB n = UInt8.ofNat (n % 128 + 128) :: numB (n / 128) := by rw [numB, if_neg h]
def yn : List UInt8 -> Nat
 | [] => 0
 | x :: xs => if x.toNat < 128 then 0 else yn xs + 1
def valL : List UInt8 -> Nat
 | [] => 0
 | x :: xs => x.toNat % 128 + 128 * valL xs
def numR (b : List UInt8) : Nat × Nat × Nat :=
 if 9 <= yn b then (0, 0, 3) else if yn b = b.length then (0, 0, 2) else if b.getD (yn b) 0 = 0 /\ 0 < yn b then (0, 0, 3) else (valL (b.take (yn b + 1)), yn b + 1, 0)
theorem u8n {m : Nat} (h : m < 256) : (UInt8.ofNat m).toNat = m := by simp; omega
theorem XZ (b : List UInt8) : yn b <= b.length := by
 induction b with
 | nil => simp [yn]
 | cons x xs ih =>
  unfold yn
  split
  ·omega
  ·simp; omega
theorem going_lt {b : List UInt8} {k : Nat} {x : UInt8} (h : k < yn b) (hx : b[k]? = some x) : ¬ x.toNat < 128 := by
 induction b generalizing k with
 | nil => simp [yn] at h
 | cons y ys ih =>
  unfold yn at h
  split at h
  ·omega
  ·rcases k with _ | k
   ·simp at hx; subst hx; assumption
   ·exact ih (k := k) (by omega) (by simpa using hx)
theorem going_at {b : List UInt8} {x : UInt8} (hx : b[yn b]? = some x) : x.toNat < 128 := by
 induction b with
 | nil => simp at hx
 | cons y ys ih =>
  by_cases hy : y.toNat < 128
  ·have e : yn (y :: ys) = 0 := by unfold yn; rw [if_pos hy]
   rw [e] at hx
   simp at hx; subst hx; assumption
  ·have e : yn (y :: ys) = yn ys + 1 := by rw [yn, if_neg hy]
   rw [e] at hx
   exact ih (by simpa using hx)
theorem going_step {b : List UInt8} {k : Nat} {x : UInt8} (h : k <= yn b) (hx : b[k]? = some x) (h1 : ¬ x.toNat < 128) : k + 1 <= yn b := by
 rcases Nat.lt_or_ge k (yn b) with h2 | h2
 ·omega
 ·obtain rfl : k = yn b := by omega
  exact absurd (going_at hx) h1
theorem going_stop {b : List UInt8} {k : Nat} {x : UInt8} (h : k <= yn b) (hx : b[k]? = some x) (h1 : x.toNat < 128) : yn b = k := by
 rcases Nat.lt_or_ge k (yn b) with h2 | h2
 ·exact absurd h1 (going_lt h2 hx)
 ·omega
theorem valL_lt (b : List UInt8) : valL b < 128 ^ b.length := by
 induction b with
 | nil => simp [valL]
 | cons x xs ih => simp only [valL, List.length_cons, Nat.pow_succ]; omega
theorem Qy (b : List UInt8) (x : UInt8) : valL (b ++ [x]) = valL b + 128 ^ b.length * (x.toNat % 128) := by
 induction b with
 | nil => simp [valL]
 | cons y ys ih => simp only [List.cons_append, valL, ih, List.length_cons, Nat.pow_succ, Nat.mul_add]; rw [Nat.mul_comm (128 ^ ys.length) 128, Nat.mul_assoc, Nat.add_assoc]
theorem numB_ne (n : Nat) : 0 < (numB n).length := by
 rw [numB]; split <;> simp
theorem numB_len {n k : Nat} (h : n < 128 ^ (k + 1)) : (numB n).length <= k + 1 := by
 induction k generalizing n with
 | zero => rw [ZC (by simpa using h)]; simp
 | succ k ih =>
  by_cases hn : n < 128
  ·rw [ZC hn]; simp
  ·rw [ZV hn, List.length_cons]
   have := ih (n := n / 128) (by rw [Nat.pow_succ] at h; omega)
   omega
theorem Xj {n : Nat} (h : n < 9223372036854775808) : (numB n).length <= 9 := numB_len (k := 8) (by simpa using h)
theorem going_numB (n : Nat) (rest : List UInt8) : yn (numB n ++ rest) + 1 = (numB n).length := by
 induction n using Nat.strongRecOn with
 | _ n ih =>
  by_cases hn : n < 128
  ·rw [ZC hn]
   simp [yn, u8n (show n < 256 by omega), hn]
  ·rw [ZV hn]
   simp only [List.cons_append, yn, u8n (show n % 128 + 128 < 256 by omega), if_neg (show ¬ n % 128 + 128 < 128 by omega), List.length_cons]
   rw [ih (n / 128) (by omega)]
theorem valL_numB (n : Nat) : valL (numB n) = n := by
 induction n using Nat.strongRecOn with
 | _ n ih =>
  by_cases hn : n < 128
  ·rw [ZC hn]
   simp [valL]
   omega
  ·rw [ZV hn]
   simp only [valL, u8n (show n % 128 + 128 < 256 by omega), ih (n / 128) (by omega)]
   omega
theorem last_numB (n : Nat) (rest : List UInt8) (k : Nat) (hk : k + 1 = (numB n).length) (h0 : (numB n ++ rest).getD k 0 = 0) : k = 0 := by
 induction n using Nat.strongRecOn generalizing k with
 | _ n ih =>
  by_cases hn : n < 128
  ·rw [ZC hn] at hk
   simpa using hk
  ·rw [ZV hn] at hk h0
   rcases k with _ | k
   ·rfl
   ·simp at hk h0
    have := ih (n / 128) (by omega) k hk (by simpa using h0)
    subst this
    by_cases hm : n / 128 < 128
    ·rw [ZC hm] at h0
     simp at h0
     have h1 := congrArg UInt8.toNat h0
     rw [u8n (by omega)] at h1
     simp at h1
     omega
    ·rw [ZV hm] at hk
     have := numB_ne (n / 128 / 128)
     rw [List.length_cons] at hk
     omega
theorem numR_numB {n : Nat} (h : n < 9223372036854775808) (rest : List UInt8) : numR (numB n ++ rest) = (n, (numB n).length, 0) := by
 have hg := going_numB n rest
 have h9 := Xj h
 unfold numR
 rw [if_neg (by omega), if_neg (by rw [List.length_append]; omega), if_neg (by intro ⟨h1, h2⟩; have := last_numB n rest _ hg h1; omega), hg, List.take_left, valL_numB]
theorem numB_of_valL (b : List UInt8) (x : UInt8) (hb : ∀ y ∈ b, ¬ y.toNat < 128) (hx : x.toNat < 128) (h0 : x = 0 -> b = []) : numB (valL (b ++ [x])) = b ++ [x] := by
 induction b with
 | nil =>
  simp only [List.nil_append, valL]
  rw [ZC (by omega), show x.toNat % 128 + 128 * 0 = x.toNat by omega]
  simp
 | cons y ys ih =>
  have hy := hb y (by simp)
  have hxn : x ≠ 0 := fun e => by simpa using h0 e
  have hv : 0 < valL (ys ++ [x]) := by
   rw [Qy]
   have h1 : 0 < x.toNat := by
    rcases Nat.eq_zero_or_pos x.toNat with h | h
    ·exact absurd (UInt8.toNat_inj.1 (by simpa using h)) hxn
    ·exact h
   have := Nat.pow_pos (n := ys.length) (show 0 < 128 by omega)
   have h2 : 0 < 128 ^ ys.length * (x.toNat % 128) := Nat.mul_pos this (by omega)
   omega
  simp only [List.cons_append, valL]
  rw [ZV (by omega), show (y.toNat % 128 + 128 * valL (ys ++ [x])) % 128 + 128 = y.toNat by have := UInt8.toNat_lt y; omega, show (y.toNat % 128 + 128 * valL (ys ++ [x])) / 128 = valL (ys ++ [x]) by omega,
   ih (fun z hz => hb z (by simp [hz])) (fun e => absurd e hxn)]
  simp
theorem numR_ok {b : List UInt8} {n s : Nat} (h : numR b = (n, s, 0)) : s <= b.length /\ 0 < s /\ s <= 9 /\ n < 9223372036854775808 /\ b.take s = numB n := by
 unfold numR at h
 split at h
 ·simp at h
 ·split at h
  ·simp at h
  ·split at h
   ·simp at h
   ·rename_i h1 h2 h3
    simp only [Prod.mk.injEq, and_true] at h
    obtain ⟨rfl, rfl⟩ := h
    have hl := XZ b
    have hlt : yn b < b.length := by omega
    have ht : b.take (yn b + 1) = b.take (yn b) ++ [b[yn b]] := List.take_succ_eq_append_getElem hlt
    have hv := valL_lt (b.take (yn b + 1))
    refine ⟨by omega, by omega, by omega, ?_, ?_⟩
    ·refine Nat.lt_of_lt_of_le hv ?_
     have : (b.take (yn b + 1)).length <= 9 := by rw [List.length_take]; omega
     exact Nat.le_trans (Nat.pow_le_pow_right (by omega) this) (by decide)
    ·rw [ht, numB_of_valL]
     ·intro y hy
      obtain ⟨i, hi, hiy⟩ := List.mem_iff_getElem.1 hy
      rw [List.length_take] at hi
      refine going_lt (b := b) (k := i) (by omega) ?_
      rw [<- hiy, List.getElem_take, List.getElem?_eq_getElem]
     ·exact going_at (List.getElem?_eq_getElem hlt)
     ·intro e
      have : b.getD (yn b) 0 = 0 := by rw [List.getD_eq_getElem?_getD, List.getElem?_eq_getElem hlt]; exact e
      have : yn b = 0 := by
       rcases Nat.eq_zero_or_pos (yn b) with h | h
       ·exact h
       ·exact absurd ⟨this, h⟩ h3
      rw [this]; rfl
end Go.Proofs.YteebkolccbcehaaGreat
end

section
set_option linter.all false
namespace Go.Proofs.YteebkolccbcehaaGreat
open Go.ChangeShapes Go.WideShapes Go.ChangeAt Go.RowKit
def IsW (w : World) (B g : Nat) (r : Option Nat) (xs : List UInt8) : Prop :=
 B <= g /\ ∃ A n c, w.heap[g]? = some (.cells #[.slice A n c] 70 (0, 0)) /\ w.ownsRow B 5 1 (.slice A n c) n (zT xs) /\ xs.length = n /\ (Value.slice A n c).ownBlock = r /\ r ≠ some g
def yh (B g : Nat) (r : Option Nat) (xs : List UInt8) (w w' : World) : Prop :=
 ∃ r', IsW w' B g r' xs /\ (∀ k, r' = some k -> r = some k \/ w.heap.size <= k) /\ Turned (fun k => k = g \/ r = some k) w w'
theorem yh.refl {w : World} {B g : Nat} {r : Option Nat} {xs : List UInt8} (h : IsW w B g r xs) : yh B g r xs w w := ⟨r, h, fun k hk => .inl hk, .refl _ _⟩
theorem yh.trans {w w1 w2 : World} {B g : Nat} {r : Option Nat} {xs ys : List UInt8} (h : yh B g r xs w w1) (k : ∀ r1, IsW w1 B g r1 xs -> yh B g r1 ys w1 w2) : yh B g r ys w w2 := by
 obtain ⟨r1, h1, h2, h3⟩ := h
 obtain ⟨r2, k1, k2, k3⟩ := k r1 h1
 refine ⟨r2, k1, fun i hi => ?_, h3.trans k3 (fun _ e => e) fun i hi e => ?_⟩
 ·rcases k2 i hi with e | e
  ·exact h2 i e
  ·exact .inr (Nat.le_trans h3.size e)
 ·rcases e with e | e
  ·exact .inl e
  ·rcases h2 i e with e | e
   ·exact .inr e
   ·omega
theorem IsW.lt {w : World} {B g : Nat} {r : Option Nat} {xs : List UInt8} (h : IsW w B g r xs) : g < w.heap.size /\ ∀ k, r = some k -> B <= k /\ k < w.heap.size := by
 obtain ⟨hB, A, n, c, hh, hown, hx, hr, hne⟩ := h
 refine ⟨(Array.getElem?_eq_some_iff.1 hh).1, fun k hk => ?_⟩
 subst hr
 exact hown.lt k hk
theorem IsW.turned {p : Nat -> Prop} {w w' : World} {B g : Nat} {r : Option Nat} {xs : List UInt8} (h : IsW w B g r xs) (ht : Turned p w w') (hg : ¬ p g) (hr : ∀ k, r = some k -> ¬ p k) : IsW w' B g r xs := by
 obtain ⟨hB, A, n, c, hh, hown, hx, hr0, hne⟩ := h
 subst hr0
 exact ⟨hB, A, n, c, ht.heap hh hg, ht.own hown hr, hx, rfl, hne⟩
theorem yh.app {w w0 w1 : World} {B g : Nat} {ys : List UInt8} {A A' : Option Addr} {n c n' c' : Nat} (hB : B <= g) (hh : w.heap[g]? = some (.cells #[.slice A n c] 70 (0, 0))) (hne : (Value.slice A n c).ownBlock ≠ some g)
  (h0 : Below w.heap.size w w0) (hg : w0.grownBy w1 (Value.slice A n c).ownBlock) (hr : ∀ k, (Value.slice A' n' c').ownBlock = some k -> (Value.slice A n c).ownBlock = some k \/ k = w0.heap.size)
  (hown : w1.ownsRow B 5 1 (.slice A' n' c') n' (zT ys)) (hl : ys.length = n') : yh B g (Value.slice A n c).ownBlock ys w (w1.setCell ⟨g, 0, none⟩ (.slice A' n' c')) := by
 have hlt := (Array.getElem?_eq_some_iff.1 hh).1
 have t1 : Turned (fun k => k = g \/ (Value.slice A n c).ownBlock = some k) w w1 := (Turned.of_below h0 (p := fun k => k = g \/ (Value.slice A n c).ownBlock = some k)).trans (Turned.of_grown hg (p := fun k => (Value.slice A n c).ownBlock = some k) fun k hk => hk) (fun _ e => e) (fun _ _ e => .inr e)
 have hr' : ∀ k, (Value.slice A' n' c').ownBlock = some k -> (Value.slice A n c).ownBlock = some k \/ w.heap.size <= k := fun k hk => by
  rcases hr k hk with e | e
  ·exact .inl e
  ·exact .inr (by have := h0.size; omega)
 have hne' : (Value.slice A' n' c').ownBlock ≠ some g := fun e => by
  rcases hr' g e with e | e
  ·exact hne e
  ·omega
 have hw1 : w1.heap[g]? = some (.cells #[.slice A n c] 70 (0, 0)) := by
  rw [hg.block g (Nat.lt_of_lt_of_le hlt h0.size) (fun e => hne e.symm), h0.block g hlt]
  exact hh
 refine ⟨_, ⟨hB, A', n', c', ?_, ?_, hl, rfl, hne'⟩, hr', t1.setCell (fun _ => .inl rfl) _⟩
 ·rw [zG hw1]; rfl
 ·exact (Turned.setCell (Turned.refl (fun k => k = g) w1) (b := ⟨g, 0, none⟩) (fun _ => rfl) _).own hown fun k hk e => by subst e; exact hne' hk
theorem or_more (m : Nat) : bits .or .u8 ((m : Int) % 256) 128 = ((m % 128 + 128 : Nat) : Int) := by
 have h : ∀ x : Fin 256, bits .or .u8 (x.1 : Int) 128 = ((x.1 % 128 + 128 : Nat) : Int) := by decide +kernel
 have := h ⟨m % 256, by omega⟩
 simp only at this
 rw [show ((m : Int) % 256) = ((m % 256 : Nat) : Int) by omega, this]
 congr 2
 omega
theorem u8_toV {m : Nat} (h : m < 256) : XF (UInt8.ofNat m) = .int .u8 (m : Int) := by simp [XF]; omega
theorem bytes_snoc {xs : List UInt8} {m : Nat} (h : m < 256) : zT xs ++ [.int .u8 (m : Int)] = zT (xs ++ [UInt8.ofNat m]) := by
 rw [bytes_append, show zT [UInt8.ofNat m] = [XF (UInt8.ofNat m)] from rfl, u8_toV h]
theorem app_heap {w w4 : World} {g : Nat} {r : Option Nat} {cs : Array Value} {t : TypeId} {o : Obj} {u : Value} (hh : w.heap[g]? = some (.cells cs t (0, 0))) (hr : u.ownBlock = r) (hne : r ≠ some g) (hg : (w.alloc o).grownBy w4 u.ownBlock) : w4.heap[g]? = some (.cells cs t (0, 0)) := by
 have hlt := (Array.getElem?_eq_some_iff.1 hh).1
 rw [hg.block g (by simp; omega) (fun e => hne (by rw [<- hr, <- e])), Below.heap_alloc _ _ _ hlt, hh]
theorem yh.step {w w1 w2 : World} {B g : Nat} {r r1 : Option Nat} {xs ys : List UInt8} (h1 : IsW w1 B g r1 xs) (h2 : ∀ k, r1 = some k -> r = some k \/ w.heap.size <= k) (h3 : Turned (fun k => k = g \/ r = some k) w w1) (k : yh B g r1 ys w1 w2) : yh B g r ys w w2 := by
 obtain ⟨r2, k1, k2, k3⟩ := k
 refine ⟨r2, k1, fun i hi => ?_, h3.trans k3 (fun _ e => e) fun i hi e => ?_⟩
 ·rcases k2 i hi with e | e
  ·exact h2 i e
  ·exact .inr (Nat.le_trans h3.size e)
 ·rcases e with e | e
  ·exact .inl e
  ·rcases h2 i e with e | e
   ·exact .inr e
   ·omega
theorem grew_num {w wr w4 : World} {B g z : Nat} {r r1 : Option Nat} {xs : List UInt8} {A A4 : Option Addr} {n1 c c4 : Nat} {o : Obj} (hB : B <= g) (hz : z < 256) (h1 : IsW wr B g r1 xs) (h2 : ∀ k, r1 = some k -> r = some k \/ w.heap.size <= k) (h3 : Turned (fun k => k = g \/ r = some k) w wr)
  (hh : wr.heap[g]? = some (.cells #[.slice A n1 c] 70 (0, 0))) (hro : (Value.slice A n1 c).ownBlock = r1) (hne : r1 ≠ some g) (hg4 : (wr.alloc o).grownBy w4 (Value.slice A n1 c).ownBlock)
  (hr4 : ∀ k, (Value.slice A4 (n1 + 1) c4).ownBlock = some k -> (Value.slice A n1 c).ownBlock = some k \/ k = (wr.alloc o).heap.size) (hown4 : w4.ownsRow B 5 1 (.slice A4 (n1 + 1) c4) (n1 + 1) (zT xs ++ [.int .u8 (z : Int)])) (hxl : xs.length = n1) :
  yh B g r (xs ++ [UInt8.ofNat z]) w (w4.setCell ⟨g, 0, none⟩ (.slice A4 (n1 + 1) c4)) := by
 subst hro
 rw [bytes_snoc hz] at hown4
 exact yh.step h1 h2 h3 (yh.app hB hh hne ((Below.refl _ _).alloc (Nat.le_refl _) o) hg4 hr4 hown4 (by simp [hxl]))
def NumAt (B g : Nat) (r : Option Nat) (xs : List UInt8) (m : Nat) (w : World) (k : Nat) (wr : World) : Prop :=
 k <= m /\ ∃ ys, ys ++ numB k = numB m /\ yh B g r (xs ++ ys) w wr
set_option maxRecDepth 100000 in
theorem Zi (B g : Nat) (r : Option Nat) (xs : List UInt8) (n : Int) (w : World) (hw : IsW w B g r xs) (hx : xs.length <= 1000000) (h1 : -9223372036854775808 <= n) (h2 : n <= 9223372036854775807) :
  Calls Tryz.prog 26 #[.pointer (some ⟨g, 0, none⟩), .int .i64 n] w fun e w' => e = .returned (.tuple #[]) /\ yh B g r (xs ++ numB n.toNat) w w' := by
 obtain ⟨m, hm⟩ : ∃ m : Nat, n.toNat = m := ⟨_, rfl⟩
 have hm2 : m < 9223372036854775808 := by omega
 have hl9 := Xj hm2
 have start : NumAt B g r xs m w m w := ⟨Nat.le_refl _, [], rfl, by simpa using yh.refl hw⟩
 have Start := ihq start; clear start hw
 have Hl9 := ihq hl9; clear hl9
 rw [hm]
 have Hm := ihq hm; clear hm
 go_enter Tryz.func26, Tryz.ntmps26
 go_wp2
 all_goals
  go_loopw [1] (fun i wr => ∃ k : Nat, i = .int .i64 k /\ NumAt B g r xs m w k wr) (fun i _ => (intOf i).toNat)
  case atStart => exact ⟨m, by have := Hm.out; congr 1; omega, Start.out⟩
  case round =>
   obtain ⟨k, rfl, hk, ys, hys, r1, hr1, hf1, ht1⟩ := hrel
   have Hf1 := ihq hf1; clear hf1
   have Ht1 := ihq ht1; clear ht1
   have hyl : ys.length + (numB k).length <= 9 := by have := Hl9.out; rw [<- hys, List.length_append] at this; exact this
   have hkl := numB_ne k
   have Hys := ihq hys; clear hys
   have Hr1 := ihq hr1
   obtain ⟨hB, A, n1, c, hh, hown, hxl, hro, hne⟩ := hr1
   have hc : wr.cell? ⟨g, 0, none⟩ = some (.slice A n1 c) := zc hh 0
   have hz := zt hh 0
   have hxl2 : (xs ++ ys).length = xs.length + ys.length := List.length_append
   have n1b : n1 <= 1000009 := by omega
   have Hh := ihq hh; clear hh
   have Hown := ihq hown; clear hown
   have Hro := ihq hro; clear hro
   have Hne := ihq hne; clear hne
   have Hxl := ihq hxl; clear hxl
   clear hxl2 hyl
   have hgs := (Array.getElem?_eq_some_iff.1 Hh.out).1
   by_cases hlt : k < 128
   ·have hmod : (k : Int) % 256 = (k : Int) := by omega
    go_wp2_with (at_builtin; refine ym rfl (.tmp 26) (.tmp 29) _ rfl 5 _ 1 Tryz.underlying23 u8_info rfl B A n1 c (zT (xs ++ ys)) rfl (Hown.out.alloc _) (some ⟨wr.heap.size, 0, none⟩) 1 1 [.int .u8 (k : Int)] rfl rfl (Seen.of_cells (heap_alloc_new wr _)) (by simp [Value.oneCell']) (by unfold maxLen; omega) (by omega) (by simp; omega) ?_; intro A4 c4 w4 hown4 hg4 hr4; have Hown4 := ihq hown4; have Hg4 := ihq hg4; have Hr4 := ihq hr4; have hh4 := ihq (app_heap Hh.out Hro.out Hne.out hg4); have hc4 : w4.cell? ⟨g, 0, none⟩ = some (.slice A n1 c) := zc hh4.out 0; have hz4 := zt hh4.out 0; clear hown4 hg4 hr4)
    go_end0
    refine ⟨rfl, ?_⟩
    rw [<- Hys.out, ZC hlt, <- List.append_assoc]
    exact grew_num hB (by omega) Hr1.out Hf1.out Ht1.out Hh.out Hro.out Hne.out Hg4.out Hr4.out Hown4.out Hxl.out
   ·have hor := or_more k
    have hzb : k % 128 + 128 < 256 := by omega
    obtain ⟨z, hze⟩ : ∃ z, k % 128 + 128 = z := ⟨_, rfl⟩
    rw [hze] at hor hzb
    have Hze := ihq hze; clear hze
    go_wp2_with (at_builtin; refine ym rfl (.tmp 14) (.tmp 18) _ rfl 5 _ 1 Tryz.underlying23 u8_info rfl B A n1 c (zT (xs ++ ys)) rfl (Hown.out.alloc _) (some ⟨wr.heap.size, 0, none⟩) 1 1 [.int .u8 (z : Int)] rfl rfl (Seen.of_cells (heap_alloc_new wr _)) (by simp [Value.oneCell']) (by unfold maxLen; omega) (by omega) (by simp; omega) ?_; intro A4 c4 w4 hown4 hg4 hr4; have Hown4 := ihq hown4; have Hg4 := ihq hg4; have Hr4 := ihq hr4; have hh4 := ihq (app_heap Hh.out Hro.out Hne.out hg4); have hc4 : w4.cell? ⟨g, 0, none⟩ = some (.slice A n1 c) := zc hh4.out 0; have hz4 := zt hh4.out 0; clear hown4 hg4 hr4)
    go_roundw
    case rel =>
     refine ⟨k / 128, by go_num, by omega, ys ++ [UInt8.ofNat z], ?_, ?_⟩
     ·rw [List.append_assoc, <- Hys.out, ZV hlt, Hze.out]; rfl
     ·rw [<- List.append_assoc]
      exact grew_num hB (by omega) Hr1.out Hf1.out Ht1.out Hh.out Hro.out Hne.out Hg4.out Hr4.out Hown4.out Hxl.out
    case measure => simp [intOf]; omega
theorem Qb (A : Option Addr) (n c : Nat) (bs : List UInt8) (w : World) (hn : bs.length = n) (hl : n <= 2000000) (h : Seen w A (zT bs)) :
  Calls Tryz.prog 57 #[.slice A n c] w (Zd 5 (zT bs) w) := by
 have Hh := ihq h; clear h
 have Hn := ihq hn; clear hn
 go_enter Tryz.func57, Tryz.ntmps57
 go_wp2_with (at_builtin; refine wpList_app rfl (.const (.slice none 0 0)) (.tmp 3) _ rfl 5 _ 1 Tryz.underlying23 u8_info rfl w.heap.size none 0 0 [] rfl (World.ownsRow_nil _ _ _ _) A n c (zT bs) rfl (by rw [xd]; exact Hn.out) Hh.out (bytes_one _) (by unfold maxLen; omega) (by omega) (Nat.le_refl _) ?_; intro A4 c4 w4 hown4 hb4; simp only [Nat.zero_add, List.nil_append] at hown4; have Hown4 := ihq hown4; clear hown4; simp only [Nat.zero_add])
 go_ret
 have el : (zT bs).length = n := by rw [xd]; exact Hn.out
 exact ⟨A4, c4, by rw [el]; rfl, by rw [el]; exact Hown4.out, hb4⟩
theorem WBytes_any (B g : Nat) (r : Option Nat) (xs : List UInt8) (w : World) (hw : IsW w B g r xs) (hx : xs.length <= 1000000) :
  Calls Tryz.prog 31 #[.pointer (some ⟨g, 0, none⟩)] w (Zd 5 (zT xs) w) := by
 obtain ⟨hB, A, n1, c, hh, hown, hxl, hro, hne⟩ := hw
 have hc : w.cell? ⟨g, 0, none⟩ = some (.slice A n1 c) := zc hh 0
 clear hh hro hne
 have Hown := ihq hown; clear hown
 go_enter Tryz.func31, Tryz.ntmps31
 go_wp2_with (go_at_call 57; refine (Qb A n1 c xs w hxl (by omega) (.of_own Hown.out)).mono ?_; rintro e w1 ⟨A1, c1, rfl, hown1, hb1⟩; have Hown1 := ihq hown1; have Hb1 := ihq hb1; clear hown1 hb1)
 go_ret
 exact ⟨A1, c1, rfl, Hown1.out, Hb1.out⟩
theorem IsW.zero (w : World) (B : Nat) (hB : B <= w.heap.size) : IsW (w.alloc (.cells #[.slice none 0 0] 70)) B w.heap.size none [] :=
 ⟨hB, none, 0, 0, heap_alloc_new _ _, World.ownsRow_nil _ _ _ _, rfl, rfl, by simp⟩
end Go.Proofs.YteebkolccbcehaaGreat
end

section
set_option linter.all false
namespace Go.Proofs.YteebkolccbcehaaGreat
open Go.ChangeShapes Go.WideShapes Go.ChangeAt Go.RowKit
def numV (b : List UInt8) : Value := .tuple #[.int .i64 ((numR b).1 : Int), .int .i64 ((numR b).2.1 : Int), .int .i64 ((numR b).2.2 : Int)]
theorem or_i64_nat (a b : Nat) (ha : a < 9223372036854775808) (hb : b < 9223372036854775808) : bits .or .i64 (a : Int) (b : Int) = ((a ||| b : Nat) : Int) := by
 have hx : a ||| b < 2 ^ 63 := Nat.or_lt_two_pow (by omega) (by omega)
 have h1 : (BitVec.ofInt 64 (a : Int)).toNat = a := by
  rw [BitVec.ofInt_natCast, BitVec.toNat_ofNat]; exact Nat.mod_eq_of_lt (by omega)
 have h2 : (BitVec.ofInt 64 (b : Int)).toNat = b := by
  rw [BitVec.ofInt_natCast, BitVec.toNat_ofNat]; exact Nat.mod_eq_of_lt (by omega)
 show IntKind.i64.wrap ((BitVec.ofInt 64 (a : Int) ||| BitVec.ofInt 64 (b : Int)).toNat : Int) = _
 rw [BitVec.toNat_or, h1, h2, IntKind.wrap_i64]
 omega
theorem or_shl (v y k : Nat) (hv : v < 128 ^ k) (hy : y < 128) (hk : k < 9) : bits .or .i64 (v : Int) (wrap64 ((y : Int) * 2 ^ (k * 7))) = ((v + 128 ^ k * y : Nat) : Int) := by
 have e : (128 : Nat) ^ k = 2 ^ (k * 7) := by rw [Nat.mul_comm, Nat.pow_mul]
 have h9 : (128 : Nat) ^ (k + 1) <= 128 ^ 9 := Nat.pow_le_pow_right (by omega) (by omega)
 rw [Nat.pow_succ] at h9
 have hm : 128 ^ k * y < 128 ^ k * 128 := Nat.mul_lt_mul_of_pos_left hy (Nat.pow_pos (by omega))
 have h63 : (128 : Nat) ^ 9 = 9223372036854775808 := by decide
 have hvl : 128 ^ k <= 128 ^ k * 128 := Nat.le_mul_of_pos_right _ (by omega)
 have ei : (y : Int) * 2 ^ (k * 7) = ((128 ^ k * y : Nat) : Int) := by rw [e]; push_cast; exact Int.mul_comm _ _
 rw [ei, show wrap64 ((128 ^ k * y : Nat) : Int) = ((128 ^ k * y : Nat) : Int) by unfold wrap64; omega, or_i64_nat _ _ (by omega) (by omega), Nat.or_comm]
 congr 1
 rw [e] at hv ⊢
 rw [<- Nat.two_pow_add_eq_or_of_lt hv]
 omega
theorem val_step {bs : List UInt8} {k v y : Nat} {x : UInt8} (hv : valL (bs.take k) = v) (ht : bs.take (k + 1) = bs.take k ++ [x]) (hx : x.toNat = y) (hk : k < bs.length) : valL (bs.take (k + 1)) = v + 128 ^ k * (y % 128) := by
 rw [ht, Qy, hv, hx, List.length_take, Nat.min_eq_left (by omega)]
theorem Y2 {bs : List UInt8} {a b c : Nat} {x y z : Int} (h : numR bs = (a, b, c)) (hx : x = a) (hy : y = b) (hz : z = c) : Ending.returned (.tuple #[.int .i64 x, .int .i64 y, .int .i64 z]) = Ending.returned (numV bs) := by
 unfold numV
 rw [h, hx, hy, hz]
theorem numR_nine {b : List UInt8} (h : 9 <= yn b) : numR b = (0, 0, 3) := by unfold numR; rw [if_pos h]
theorem numR_end {b : List UInt8} (h : b.length <= yn b) (h9 : ¬ 9 <= yn b) : numR b = (0, 0, 2) := by unfold numR; rw [if_neg h9, if_pos (by have := XZ b; omega)]
theorem numR_zero {b : List UInt8} {k : Nat} (h : yn b = k) (h9 : k < 9) (hx : b[k]? = some 0) (h0 : 0 < k) : numR b = (0, 0, 3) := by
 subst h
 unfold numR
 have := (List.getElem?_eq_some_iff.1 hx).1
 rw [if_neg (by omega), if_neg (by omega), if_pos ⟨by rw [List.getD_eq_getElem?_getD, hx]; rfl, h0⟩]
theorem numR_num {b : List UInt8} {k : Nat} {x : UInt8} (h : yn b = k) (h9 : k < 9) (hx : b[k]? = some x) (h0 : x = 0 -> k = 0) : numR b = (valL (b.take (k + 1)), k + 1, 0) := by
 subst h
 unfold numR
 have := (List.getElem?_eq_some_iff.1 hx).1
 rw [if_neg (by omega), if_neg (by omega), if_neg (by
  rintro ⟨h1, h2⟩
  rw [List.getD_eq_getElem?_getD, hx] at h1
  have := h0 h1
  omega)]
set_option maxRecDepth 100000 in
theorem ZU (A : Option Addr) (n c : Nat) (bs : List UInt8) (w : World) (hn : bs.length = n) (hl : n <= 2000000) (h : Seen w A (zT bs)) :
  Calls Tryz.prog 58 #[.slice A n c] w fun e w' => e = .returned (numV bs) /\ w = w' := by
 have Hh := ihq h; clear h
 have Hn := ihq hn
 have hgl := XZ bs
 rw [hn] at hgl
 clear hn
 go_enter Tryz.func58, Tryz.ntmps58
 go_wp2
 go_step3
 go_wp2
 go_step3
 go_wp2
 go_loop [2, 5] (fun s i => ∃ k v : Nat, i = .int .i64 k /\ s = .int .i64 v /\ k <= 9 /\ k <= yn bs /\ valL (bs.take k) = v /\ v < 128 ^ k) (fun _ i => 9 - (intOf i).toNat)
 case atStart => exact ⟨0, 0, rfl, rfl, by omega, by omega, rfl, by omega⟩
 case round =>
  obtain ⟨k, v, rfl, rfl, hk9, hkg, hv, hvl⟩ := hrel
  have Hv := ihq hv; clear hv
  have Hvl := ihq hvl; clear hvl
  by_cases h9 : k = 9
  ·subst h9
   have Hr := ihq (numR_nine hkg)
   go_wp2
   go_ret3
   exact ⟨Y2 Hr.out rfl rfl rfl, rfl⟩
  ·by_cases hkn : k = n
   ·have Hr := ihq (numR_end (b := bs) (by have := Hn.out; omega) (by omega))
    go_wp2
    go_ret3
    exact ⟨Y2 Hr.out rfl rfl rfl, rfl⟩
   ·obtain ⟨g, o, x, rfl, hx, hxt, hcell⟩ := Hh.out.byteAt (j := k) (by have := Hn.out; omega)
    have Hx := ihq (And.intro hx hxt)
    have hxl := UInt8.toNat_lt x
    obtain ⟨y, hy⟩ : ∃ y, x.toNat = y := ⟨_, rfl⟩
    rw [hy] at hcell hxl
    have Hy := ihq hy
    have hkn2 : k < n := by omega
    have hk92 : k < 9 := by omega
    by_cases hy128 : y < 128
    ·have Hg := ihq (going_stop hkg hx (by omega))
     by_cases hy0 : y = 0 /\ 0 < k
     ·have Hr := ihq (numR_zero Hg.out hk92 (by rw [hx]; congr 1; exact UInt8.toNat_inj.1 (by rw [hy]; exact hy0.1)) hy0.2)
      obtain ⟨rfl, hk0⟩ := hy0
      clear hy hx hxt
      go_wp2
      go_ret3
      exact ⟨Y2 Hr.out rfl rfl rfl, rfl⟩
     ·have Hr := ihq (numR_num Hg.out hk92 hx (fun e => by subst e; simp at hy; omega))
      have Hvs := ihq (val_step Hv.out hxt hy (by have := Hn.out; omega))
      have e1 := or_shl v y k Hvl.out hy128 hk92
      have hmod : y % 128 = y := by omega
      have Hmod := ihq hmod
      clear hy hx hxt hmod
      by_cases hy00 : y = 0
      ·subst hy00
       have hk0 : decide ((0 : Int) < (k : Int)) = false := by simp; omega
       go_wp2
       go_ret3
       exact ⟨Y2 Hr.out (by rw [Hvs.out]; have := or_shl v 0 k Hvl.out (by omega) hk92; simp [wrap64] at this; simpa using this) rfl rfl, rfl⟩
      ·go_wp2
       go_ret3
       exact ⟨Y2 Hr.out (by rw [Hvs.out, Hmod.out]; push_cast; rfl) rfl rfl, rfl⟩
    ·have Hg := ihq (going_step hkg hx (by omega))
     have Hvs := ihq (val_step Hv.out hxt hy (by have := Hn.out; omega))
     have e1 := or_shl v (y - 128) k Hvl.out (by omega) hk92
     rw [show ((y - 128 : Nat) : Int) = (y : Int) - 128 by omega] at e1
     have hmod : y % 128 = y - 128 := by omega
     have Hmod := ihq hmod
     clear hy hx hxt hmod
     go_wp2
     go_round
     case rel =>
      refine ⟨k + 1, v + 128 ^ k * (y - 128), by go_num, rfl, by omega, Hg.out, by rw [Hvs.out, Hmod.out], ?_⟩
      have := Hvl.out
      have hm : 128 ^ k * (y - 128) <= 128 ^ k * 127 := Nat.mul_le_mul_left _ (by omega)
      rw [Nat.pow_succ]
      omega
     case measure => simp [intOf]; omega
end Go.Proofs.YteebkolccbcehaaGreat
end

section
set_option linter.all false
namespace Go.Proofs.YteebkolccbcehaaGreat
open Go.ChangeShapes Go.WideShapes Go.ChangeAt Go.RowKit
def IsR (w : World) (g : Nat) (bs : List UInt8) (e : Nat) : Prop :=
 ∃ A n c, w.heap[g]? = some (.cells #[.slice A n c, .int .i64 (e : Int)] 100 (0, 0)) /\ bs.length = n /\ n <= c /\ c <= maxLen /\ n <= 1000000 /\ Seen w A (zT bs) /\ ∀ a, A = some a -> a.block < g
theorem IsR.lt {w : World} {g e : Nat} {bs : List UInt8} (h : IsR w g bs e) : g < w.heap.size := by
 obtain ⟨A, n, c, hh, _⟩ := h
 exact (Array.getElem?_eq_some_iff.1 hh).1
theorem IsR.below {w w' : World} {g e : Nat} {bs : List UInt8} (h : IsR w g bs e) (hb : Below w.heap.size w w') : IsR w' g bs e := by
 obtain ⟨A, n, c, hh, h1, h2, h3, h4, h5, h6⟩ := h
 exact ⟨A, n, c, (by rw [hb.block g (Array.getElem?_eq_some_iff.1 hh).1]; exact hh), h1, h2, h3, h4, h5.below hb, h6⟩
theorem IsR.far {p : Nat -> Prop} {w w' : World} {g e : Nat} {bs : List UInt8} (h : IsR w g bs e) (ht : Turned p w w') (hp : ∀ k, k <= g -> ¬ p k) : IsR w' g bs e := by
 obtain ⟨A, n, c, hh, h1, h2, h3, h4, h5, h6⟩ := h
 exact ⟨A, n, c, ht.heap hh (hp g (Nat.le_refl _)), h1, h2, h3, h4, ht.seen h5 (fun k o e => hp k (Nat.le_of_lt (h6 ⟨k, o, none⟩ e))), h6⟩
def zM (bs : List UInt8) (e : Nat) (most : Int) : Nat × List UInt8 × Nat :=
 if e ≠ 0 then (0, bs, e) else if (numR bs).2.2 ≠ 0 then (0, bs, (numR bs).2.2) else if most < ((numR bs).1 : Int) then (0, bs, 5) else ((numR bs).1, bs.drop (numR bs).2.1, 0)
def endOf (bs : List UInt8) (e : Nat) : Nat := if e = 0 /\ 0 < bs.length then 3 else e
theorem End_any (g e : Nat) (bs : List UInt8) (w : World) (h : IsR w g bs e) :
  Calls Tryz.prog 23 #[.pointer (some ⟨g, 0, none⟩)] w fun en w' => en = .returned (.int .i64 (endOf bs e : Int)) /\ w = w' := by
 obtain ⟨A, n, c, hh, h1, h2, h3, h4, h5, h6⟩ := h
 have hc1 : w.cell? ⟨g, 1, none⟩ = some (.int .i64 (e : Int)) := zc hh 1
 have hc0 : w.cell? ⟨g, 0, none⟩ = some (.slice A n c) := zc hh 0
 clear hh h5 h6
 unfold endOf
 subst h1
 by_cases he : e = 0
 ·subst he
  by_cases hn : 0 < bs.length
  ·rw [if_pos ⟨rfl, hn⟩]
   have hd : decide ((0 : Int) < (bs.length : Int)) = true := by simp; omega
   go_enter Tryz.func23, Tryz.ntmps23
   go_wp2
   go_ret
   exact ⟨rfl, rfl⟩
  ·rw [if_neg (fun h => hn h.2)]
   have hd : decide ((0 : Int) < (bs.length : Int)) = false := decide_eq_false (by omega)
   go_enter Tryz.func23, Tryz.ntmps23
   go_wp2
   go_ret
   exact ⟨rfl, rfl⟩
 ·rw [if_neg (fun h => he h.1)]
  have hd : ((e : Int) == 0) = false := by simp; omega
  go_enter Tryz.func23, Tryz.ntmps23
  go_wp2
  go_ret
  exact ⟨rfl, rfl⟩
theorem own_cap0 {w : World} {base n c : Nat} {A : Option Addr} {e : TypeId} {xs : List Value} (h : w.ownsRow base e 1 (.slice A n c) n xs) : n <= c /\ c <= maxLen := by
 rcases h.2 with ⟨hv, _⟩ | ⟨g', cap, cur, hv, _, _, h1, h2, _⟩
 ·injection hv with _ h2 h3
  subst h2; subst h3
  exact ⟨Nat.le_refl _, Nat.zero_le _⟩
 ·injection hv with _ _ h3
  subst h3
  exact ⟨h1, h2⟩
theorem NewR_any (A : Option Addr) (n c : Nat) (bs : List UInt8) (w : World) (hn : bs.length = n) (hl : n <= 1000000) (h : Seen w A (zT bs)) :
  Calls Tryz.prog 20 #[.slice A n c] w fun e w' => ∃ g, e = .returned (.pointer (some ⟨g, 0, none⟩)) /\ w.heap.size <= g /\ IsR w' g bs 0 /\ Below w.heap.size w w' := by
 go_enter Tryz.func20, Tryz.ntmps20
 go_wp2_with (go_at_call 57; refine (Qb A n c bs w hn (by omega) h).mono ?_; rintro e w1 ⟨A1, c1, rfl, hown1, hb1⟩; rw [xd, hn] at hown1 ⊢; have Hown1 := ihq hown1; have Hb1 := ihq hb1; clear hown1 hb1 h)
 go_ret
 have hk := own_cap0 Hown1.out
 refine ⟨w1.heap.size, rfl, Hb1.out.size, ⟨A1, n, c1, heap_alloc_new _ _, hn, hk.1, hk.2, hl, (Seen.of_own Hown1.out).alloc _, fun a e => ?_⟩, Hb1.out.alloc Hb1.out.size _⟩
 subst e
 have := (Hown1.out.lt a.block rfl).2
 omega
theorem IsR.err {w : World} {g : Nat} {bs : List UInt8} {A : Option Addr} {n c x : Nat} {e : Value} (hh : w.heap[g]? = some (.cells #[.slice A n c, e] 100 (0, 0))) (h1 : bs.length = n) (h2 : n <= c) (h3 : c <= maxLen) (h4 : n <= 1000000)
  (h5 : Seen w A (zT bs)) (h6 : ∀ a, A = some a -> a.block < g) : IsR (w.setCell ⟨g, 1, none⟩ (.int .i64 (x : Int))) g bs x /\ Turned (fun k => k = g) w (w.setCell ⟨g, 1, none⟩ (.int .i64 (x : Int))) := by
 have t := Turned.setCell (Turned.refl (fun k => k = g) w) (b := ⟨g, 1, none⟩) (fun _ => rfl) (.int .i64 (x : Int))
 refine ⟨⟨A, n, c, ?_, h1, h2, h3, h4, t.seen h5 (fun k o e => Nat.ne_of_lt (h6 ⟨k, o, none⟩ e)), h6⟩, t⟩
 rw [zG hh]; rfl
theorem IsR.left {w : World} {g : Nat} {bs' : List UInt8} {A A' : Option Addr} {n c n' c' x : Nat} (hh : w.heap[g]? = some (.cells #[.slice A n c, .int .i64 (x : Int)] 100 (0, 0))) (h1 : bs'.length = n') (h2 : n' <= c') (h3 : c' <= maxLen) (h4 : n' <= 1000000)
  (h5 : Seen w A' (zT bs')) (h6 : ∀ a, A' = some a -> a.block < g) : IsR (w.setCell ⟨g, 0, none⟩ (.slice A' n' c')) g bs' x /\ Turned (fun k => k = g) w (w.setCell ⟨g, 0, none⟩ (.slice A' n' c')) := by
 have t := Turned.setCell (Turned.refl (fun k => k = g) w) (b := ⟨g, 0, none⟩) (fun _ => rfl) (.slice A' n' c')
 refine ⟨⟨A', n', c', ?_, h1, h2, h3, h4, t.seen h5 (fun k o e => Nat.ne_of_lt (h6 ⟨k, o, none⟩ e)), h6⟩, t⟩
 rw [zG hh]; rfl
theorem add_block (a : Addr) (s : Nat) : (a.add s).block = a.block := by
 unfold Addr.add
 split <;> rfl
theorem cut_apart {A : Option Addr} {g c s : Nat} (h6 : ∀ a, A = some a -> a.block < g) : ∀ a, (if c = s then A else A.map (·.add s)) = some a -> a.block < g := fun a e => by
 split at e
 ·exact h6 a e
 ·cases A with
  | none => simp at e
  | some b =>
   simp only [Option.map_some, Option.some.injEq] at e
   subst e
   rw [add_block]
   exact h6 b rfl
set_option maxHeartbeats 600000 in
set_option maxRecDepth 100000 in
theorem xi (g e : Nat) (bs : List UInt8) (most : Int) (w : World) (h : IsR w g bs e) (h1 : -9223372036854775808 <= most) (h2 : most <= 9223372036854775807) :
  Calls Tryz.prog 21 #[.pointer (some ⟨g, 0, none⟩), .int .i64 most] w fun en w' => en = .returned (.int .i64 ((zM bs e most).1 : Int)) /\ IsR w' g (zM bs e most).2.1 (zM bs e most).2.2 /\ Turned (fun k => k = g) w w' := by
 obtain ⟨A, n, c, hh, hl, hnc, hcm, hn6, hs, hA⟩ := h
 have hc1 : w.cell? ⟨g, 1, none⟩ = some (.int .i64 (e : Int)) := zc hh 1
 have hc0 : w.cell? ⟨g, 0, none⟩ = some (.slice A n c) := zc hh 0
 have hz0 := zt hh 0
 have hz1 := zt hh 1
 have Hh := ihq hh; clear hh
 have Hs := ihq hs; clear hs
 have HA := ihq hA; clear hA
 by_cases he : e = 0
 ·subst he
  obtain ⟨a, s, er, hr⟩ : ∃ a s er, numR bs = (a, s, er) := ⟨_, _, _, rfl⟩
  have hv : numV bs = .tuple #[.int .i64 (a : Int), .int .i64 (s : Int), .int .i64 (er : Int)] := by unfold numV; rw [hr]
  have Hv := ihq hv; clear hv
  have hrd : zM bs 0 most = if er ≠ 0 then (0, bs, er) else if most < (a : Int) then (0, bs, 5) else (a, bs.drop s, 0) := by unfold zM; rw [hr]; rfl
  by_cases her : er = 0
  ·subst her
   have hok := numR_ok hr
   by_cases hm : most < (a : Int)
   ·rw [hrd, if_neg (by omega), if_pos hm]
    clear hrd
    go_enter Tryz.func21, Tryz.ntmps21
    go_wp2_with (go_at_call 58; refine (ZU A n c bs w hl (by omega) Hs.out).mono ?_; rintro e w1 ⟨rfl, rfl⟩; rw [Hv.out])
    go_ret
    exact ⟨rfl, IsR.err Hh.out hl hnc hcm hn6 Hs.out HA.out⟩
   ·rw [hrd, if_neg (by omega), if_neg hm]
    clear hrd
    have hsn : s <= n := by omega
    have Hok := ihq hok; clear hok
    have hx := fun A' => IsR.left (A' := A') (n' := n - s) (c' := c - s) (bs' := bs.drop s) Hh.out (by rw [List.length_drop]; omega) (by omega) (by omega) (by omega)
    have hseen := seen_drop (K := s) Hs.out (c := c) (by omega)
    have hap := cut_apart (c := c) (s := s) HA.out
    have Hx := ihq hx; clear hx
    have Hseen := ihq hseen; clear hseen
    have Hap := ihq hap; clear hap
    by_cases hcs : c = s
    ·subst hcs
     go_enter Tryz.func21, Tryz.ntmps21
     go_wp2_with (go_at_call 58; refine (ZU A n c bs w hl (by omega) Hs.out).mono ?_; rintro e w1 ⟨rfl, rfl⟩; rw [Hv.out])
     go_ret
     have x := Hx.out _ Hseen.out Hap.out
     have en : n - c = 0 := by omega
     rw [if_pos trivial, en, Nat.sub_self] at x
     exact ⟨rfl, x⟩
    ·go_enter Tryz.func21, Tryz.ntmps21
     go_wp2_with (go_at_call 58; refine (ZU A n c bs w hl (by omega) Hs.out).mono ?_; rintro e w1 ⟨rfl, rfl⟩; rw [Hv.out])
     go_ret
     have x := Hx.out _ Hseen.out Hap.out
     rw [if_neg hcs] at x
     exact ⟨rfl, x⟩
  ·rw [hrd, if_pos her]
   clear hrd
   have hd : ((er : Int) != 0) = true := by simp; omega
   go_enter Tryz.func21, Tryz.ntmps21
   go_wp2_with (go_at_call 58; refine (ZU A n c bs w hl (by omega) Hs.out).mono ?_; rintro e w1 ⟨rfl, rfl⟩; rw [Hv.out])
   go_ret
   exact ⟨rfl, IsR.err Hh.out hl hnc hcm hn6 Hs.out HA.out⟩
 ·have hrd : zM bs e most = (0, bs, e) := by unfold zM; rw [if_pos he]
  rw [hrd]
  have hd : ((e : Int) != 0) = true := by simp; omega
  clear hrd
  go_enter Tryz.func21, Tryz.ntmps21
  go_wp2
  go_ret
  exact ⟨rfl, ⟨A, n, c, Hh.out, hl, hnc, hcm, hn6, Hs.out, HA.out⟩, .refl _ _⟩
theorem own_base {w : World} {b b' : Nat} {e : TypeId} {v : Value} {n : Nat} {xs : List Value} (h : w.ownsRow b e 1 v n xs) (hb : b' <= b) : w.ownsRow b' e 1 v n xs := by
 refine ⟨h.1, ?_⟩
 rcases h.2 with h2 | ⟨g, cap, cur, hv, hg, r⟩
 ·exact .inl h2
 ·exact .inr ⟨g, cap, cur, hv, Nat.le_trans hb hg, r⟩
end Go.Proofs.YteebkolccbcehaaGreat
end
