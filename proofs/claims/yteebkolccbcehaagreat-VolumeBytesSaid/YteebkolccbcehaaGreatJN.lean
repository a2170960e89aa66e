/-
  Joined: VolPut, Byt, Byt1. Conditions: each theorem's own.
-/
import Derived.Test.YteebkolccbcehaaGreatJL
import Derived.Test.YteebkolccbcehaaGreatJM

section
set_option linter.all false
namespace Go.Proofs.YteebkolccbcehaaGreat
open Go.ChangeShapes Go.WideShapes Go.ChangeAt Go.RowKit
def putB (l : List Int) : List UInt8 := l.flatMap fun x => numB x.toNat
theorem zI (a b : List Int) : putB (a ++ b) = putB a ++ putB b := by simp [putB]
theorem xa : ∀ (l : List Int), (∀ x ∈ l, In64 x) -> (putB l).length <= 9 * l.length
 | [], _ => by simp [putB]
 | x :: l, h => by
  have h1 := xa l (fun y hy => h y (List.mem_cons_of_mem _ hy))
  have h2 := Xj (n := x.toNat) (by have := h x (List.mem_cons_self ..); unfold In64 at this; omega)
  have e : putB (x :: l) = numB x.toNat ++ putB l := by simp [putB]
  rw [e, List.length_append, List.length_cons]
  omega
def numsC (c : Cmd) : List Int := [c.k, c.a, c.b, c.c]
def xP (p : Pol) : List Int := [p.re, p.we, p.li, p.bu]
theorem IsW.noInts {w : World} {B g : Nat} {r : Option Nat} {xs : List UInt8} (h : IsW w B g r xs) : NoT w 3 (fun k => k = g \/ r = some k) := by
 intro k cs fr hk e
 obtain ⟨hB, A, n, c, hh, hown, _, hro, _⟩ := h
 rcases hk with rfl | hk
 ·rw [hh] at e
  injection e with e
  injection e with _ e
  exact absurd e (by decide)
 ·obtain ⟨cs', e'⟩ := zD hown (hro.trans hk)
  rw [e] at e'
  injection e' with e'
  injection e' with _ e'
  exact absurd e' (by decide)
set_option maxRecDepth 100000 in
set_option maxHeartbeats 1000000 in
theorem Y8 (B g : Nat) (r : Option Nat) (xs : List UInt8) (S : Sl) (us : List Int) (w : World) (hw : IsW w B g r xs) (hx : xs.length <= 900000) (hs : zQ w S us) (hl : us.length <= 1000) (hu : ∀ x ∈ us, In64 x) :
  Calls Tryz.prog 28 #[.pointer (some ⟨g, 0, none⟩), .slice S.A S.n S.c] w fun e w' => e = .returned (.tuple #[]) /\ yh B g r (xs ++ putB us) w w' := by
 obtain ⟨A, n, c⟩ := S
 have hn := hs.len
 simp only at hn ⊢
 have hn1000 : n <= 1000 := by omega
 have H := ihq hs; have Hw := ihq hw; have Hu := ihq hu; have Hn := ihq hn; have Hx := ihq hx; have Hl := ihq hl
 clear hs hw hu hn hx hl
 go_enter Tryz.func28, Tryz.ntmps28
 go_wp2
 go_loopw [5, 8] (fun _ iv wr => ∃ i : Nat, i <= n /\ iv = .int .i64 (i : Int) /\ yh B g r (xs ++ putB (us.take i)) w wr /\ zQ wr ⟨A, n, c⟩ us) (fun _ iv _ => n - (intOf iv).toNat)
 case atStart => exact ⟨0, by omega, rfl, by rw [List.take_zero]; simpa [putB] using yh.refl Hw.out, H.out⟩
 case round =>
  obtain ⟨i, hin, rfl, hg, hs⟩ := hrel
  by_cases hi : i < n
  ·obtain ⟨x, hx⟩ : ∃ x, us[i]? = some x := ⟨_, List.getElem?_eq_getElem (by have := Hn.out; omega)⟩
   have hxi := Hu.out x (List.mem_of_getElem? hx)
   obtain ⟨r1, hw1, hr1, ht1⟩ := hg
   have htk : us.take (i + 1) = us.take i ++ [x] := by
    obtain ⟨h1, h2⟩ := List.getElem?_eq_some_iff.1 hx
    rw [List.take_succ_eq_append_getElem h1, h2]
   have hlen : (xs ++ putB (us.take i)).length <= 1000000 := by
    have h1 := xa (us.take i) (fun y hy => Hu.out y (List.mem_of_mem_take hy))
    have h2 : (us.take i).length <= us.length := (by rw [List.length_take]; omega)
    rw [List.length_append]
    have := Hx.out; have := Hl.out
    omega
   have KW := ihq (Zi B g r1 (xs ++ putB (us.take i)) x wr hw1 hlen (by unfold In64 at hxi; omega) (by unfold In64 at hxi; omega))
   have i0 : (0 : Int) <= (i : Int) := by omega
   have i1 : (i : Int) < (n : Int) := by omega
   have e1 : (zo us)[i]? = some (.int .i64 x) := by simp [zo, hx]
   rcases hs.see.1 with h0 | ⟨g1, o1, hA, hc⟩
   ·rw [h0] at e1; cases e1
   simp only at hA
   have d0 := hc _ _ e1
   have Hs := ihq hs; have Hg := ihq (show yh B g r (xs ++ putB (us.take i)) w wr from ⟨r1, hw1, hr1, ht1⟩); have Hw1 := ihq hw1; have Htk := ihq htk; have Hr1 := ihq (And.intro hr1 ht1)
   clear hs hw1 hr1 ht1 hc htk hlen hx e1 hxi
   subst hA
   go_wp2_with (go_at_call 26; refine KW.out.mono ?_; rintro e w2 ⟨rfl, hg2⟩; have Hg2 := ihq hg2; clear hg2)
   go_roundw
   case rel =>
    obtain ⟨r2, hw2, hr2, ht2⟩ := Hg2.out
    refine ⟨i + 1, by omega, by go_num, ?_, Hs.out.turned ht2 Hw1.out.noInts⟩
    rw [Htk.out, zI, <- List.append_assoc]
    have e9 : putB [x] = numB x.toNat := by simp [putB]
    rw [e9]
    refine ⟨r2, hw2, fun k hk => ?_, ?_⟩
    ·rcases hr2 k hk with h | h
     ·exact Hr1.out.1 k h
     ·exact .inr (Nat.le_trans Hr1.out.2.size h)
    ·refine Hr1.out.2.trans ht2 (fun _ e => e) (fun k hk e => ?_)
     rcases e with e | e
     ·exact .inl e
     ·rcases Hr1.out.1 k e with h | h
      ·exact .inr h
      ·omega
   case measure => simp [intOf]; omega
  ·obtain rfl : i = n := by omega
   have i1 : ¬ (i : Int) < (i : Int) := by omega
   have hty : us.take i = us := List.take_of_length_le (by rw [Hn.out]; exact Nat.le_refl _)
   rw [hty] at hg
   have Hg := ihq hg
   clear hg hs hty
   go_wp2
   go_end0
   exact ⟨rfl, Hg.out⟩
def NumsRet (p : Pol) (w : World) (e : Ending) (w' : World) : Prop :=
 ∃ b, e = .returned (.slice (some ⟨b, 0, none⟩) 4 4) /\ w.heap.size <= b /\ zQ w' ⟨some ⟨b, 0, none⟩, 4, 4⟩ (xP p) /\ Below w.heap.size w w'
theorem four_ints {w : World} {b : Nat} {a1 a2 a3 a4 : Int} (h : w.heap[b]? = some (.cells #[.int .i64 a1, .int .i64 a2, .int .i64 a3, .int .i64 a4] 3 (0, 0))) : zQ w ⟨some ⟨b, 0, none⟩, 4, 4⟩ [a1, a2, a3, a4] :=
 ⟨rfl, Nat.le_refl _, by show 4 <= maxLen; unfold maxLen; omega, Seen.of_cells h, .inr ⟨_, _, _, _, rfl, h⟩⟩
set_option maxRecDepth 100000 in
set_option maxHeartbeats 1000000 in
theorem VNums (p : Pol) (w : World) (hp : InP p) : Calls Tryz.prog 64 #[.agg #[.int .i64 p.re, .int .i64 p.we, .int .i64 p.li, .int .i64 p.bu]] w (NumsRet p w) := by
 obtain ⟨re, we, li, bu⟩ := p
 obtain ⟨w1, hw1⟩ : ∃ w1, w.alloc (.cells #[.int .i64 re, .int .i64 we, .int .i64 li, .int .i64 bu] 37) = w1 := ⟨_, rfl⟩
 have hb1 : Below w.heap.size w w1 := by rw [<- hw1]; exact zg _ _
 have ⟨c0, c1, c2, c3, _⟩ : Z8 w1 w.heap.size 0 ⟨re, we, li, bu⟩ := by rw [<- hw1]; exact ZT (heap_alloc_new _ _) hp
 simp only at c0 c1 c2 c3
 have Hb1 := ihq hb1; clear hb1 hp
 go_enter Tryz.func64, Tryz.ntmps64
 go_wp2
 go_ret
 exact ⟨_, rfl, Hb1.out.size, four_ints (heap_alloc_new _ _), Hb1.out.alloc Hb1.out.size _⟩
attribute [local go_sem ↓] yA
end Go.Proofs.YteebkolccbcehaaGreat
end

section
set_option linter.all false
namespace Go.Proofs.YteebkolccbcehaaGreat
open Go.ChangeShapes Go.WideShapes Go.ChangeAt Go.RowKit
def Z7 (l : List Int) : List Int := (l.length : Int) :: l
def chkN (last : Int) (k : Chk) : List Int := [k.id - last, k.ep] ++ Z7 k.ms ++ Z7 k.js
def yM : Int -> List Chk -> List Int
 | _, [] => []
 | last, k :: r => chkN last k ++ yM k.id r
def yT : Int -> List Chk -> Int
 | x, [] => x
 | _, k :: r => yT k.id r
theorem chksN_snoc (last : Int) (l : List Chk) (k : Chk) : yM last (l ++ [k]) = yM last l ++ chkN (yT last l) k := by
 induction l generalizing last with
 | nil => simp [yM, yT]
 | cons a l ih => simp only [List.cons_append, yM, yT, ih, List.append_assoc]
theorem ZW (last : Int) (l : List Chk) (k : Chk) : yT last (l ++ [k]) = k.id := by
 induction l generalizing last with
 | nil => rfl
 | cons a l ih => simp only [List.cons_append, yT, ih]
def volN (v : Vol) : List Int := [v.bl] ++ xP v.p ++ [v.ver] ++ yM 0 v.ks
def stN (s : St) : List Int := [s.md] ++ [((zm s.pk).length : Int)] ++ ((zm s.pk).flatMap fun (i : Nat) => [(i : Int), s.pk i]) ++
 [((((List.range 64).filter fun i => decide ((s.vs i).bl ≠ 0)).length : Nat) : Int)] ++ (((List.range 64).filter fun i => decide ((s.vs i).bl ≠ 0)).flatMap fun (i : Nat) => (i : Int) :: volN (s.vs i))
def y6 (s : St) : List UInt8 := putB (stN s)
theorem IsW.noT {w : World} {B g : Nat} {r : Option Nat} {xs : List UInt8} {T : TypeId} (h : IsW w B g r xs) (h1 : T ≠ 70) (h2 : T ≠ 5) : NoT w T (fun k => k = g \/ r = some k) := by
 intro k cs fr hk e
 obtain ⟨hB, A, n, c, hh, hown, _, hro, _⟩ := h
 rcases hk with rfl | hk
 ·rw [hh] at e
  injection e with e
  injection e with _ e
  exact h1 e.symm
 ·obtain ⟨cs', e'⟩ := zD hown (hro.trans hk)
  rw [e] at e'
  injection e' with e'
  injection e' with _ e'
  exact h2 e'
theorem IsW.noCk {w : World} {B g : Nat} {r : Option Nat} {xs : List UInt8} (h : IsW w B g r xs) : NoCk w (fun k => k = g \/ r = some k) := ⟨h.noT (by decide) (by decide), h.noT (by decide) (by decide)⟩
structure WGrew (B g : Nat) (r : Option Nat) (xs : List UInt8) (w w' : World) : Prop where
 ex : yh B g r xs w w'
theorem yh.then {w w1 w2 : World} {B g : Nat} {r r1 : Option Nat} {xs ys : List UInt8} (h1 : IsW w1 B g r1 xs) (h2 : (∀ k, r1 = some k -> r = some k \/ w.heap.size <= k) /\ Turned (fun k => k = g \/ r = some k) w w1) (k : yh B g r1 ys w1 w2) : yh B g r ys w w2 := yh.step h1 h2.1 h2.2 k
theorem yh.bel {w w1 w2 : World} {B g : Nat} {r : Option Nat} {xs : List UInt8} (h : yh B g r xs w w1) (hb : Below w1.heap.size w1 w2) : yh B g r xs w w2 := by
 obtain ⟨r1, h1, h2, h3⟩ := h
 exact ⟨r1, h1.turned (p := fun _ => False) (.of_below hb) id (fun _ _ e => e), h2, h3.trans (Turned.of_below hb (p := fun _ => False)) (fun _ e => e) (fun _ _ e => e.elim)⟩
theorem xq (x : Int) : putB [x] = numB x.toNat := by simp [putB]
theorem In64.small {x : Int} (h : -9223372036854775808 <= x /\ x <= 9223372036854775807) : In64 x := h
set_option maxRecDepth 100000 in
set_option maxHeartbeats 1000000 in
theorem VputList (B g : Nat) (r : Option Nat) (xs : List UInt8) (S : Sl) (us : List Int) (w : World) (hw : IsW w B g r xs) (hx : xs.length <= 800000) (hs : zQ w S us) (hl : us.length <= 1000) (hu : ∀ x ∈ us, In64 x) :
  Calls Tryz.prog 65 #[.pointer (some ⟨g, 0, none⟩), .slice S.A S.n S.c] w fun e w' => e = .returned (.tuple #[]) /\ yh B g r (xs ++ putB (Z7 us)) w w' := by
 obtain ⟨A, n, c⟩ := S
 have hn := hs.len
 simp only at hn ⊢
 have KW := ihq (Zi B g r xs (n : Int) w hw (by omega) (by omega) (by omega))
 have H := ihq hs; have Hw := ihq hw; have Hu := ihq hu; have Hn := ihq hn; have Hx := ihq hx; have Hl := ihq hl
 clear hs hw hu hx hl
 go_enter Tryz.func65, Tryz.ntmps65
 go_wp2_with fail
 refine KW.out.mono ?_
 rintro e w2 ⟨rfl, hg2⟩
 obtain ⟨r2, hw2, hr2, ht2⟩ := hg2
 have hl9 := xa [(n : Int)] (fun x hx => by rw [List.mem_singleton] at hx; subst hx; have := Hl.out; unfold In64; omega)
 rw [xq] at hl9
 have KP := ihq (Y8 B g r2 (xs ++ numB (n : Int).toNat) ⟨A, n, c⟩ us w2 hw2 (by rw [List.length_append]; have := Hx.out; simp at hl9 ⊢; omega) (H.out.turned ht2 Hw.out.noInts) Hl.out Hu.out)
 have HG := ihq (show yh B g r _ w w2 from ⟨r2, hw2, hr2, ht2⟩)
 have HW2 := ihq hw2; have HR2 := ihq (And.intro hr2 ht2)
 clear hw2 hr2 ht2 hl9 hn
 go_wp2_with (go_at_call 28; refine KP.out.mono ?_; rintro e w3 ⟨rfl, hg3⟩; have Hg3 := ihq hg3; clear hg3)
 go_end0
 refine ⟨rfl, ?_⟩
 have h9 := yh.then HW2.out HR2.out Hg3.out
 rw [List.append_assoc, <- xq, <- zI] at h9
 unfold Z7
 rw [Hn.out]
 exact h9
end Go.Proofs.YteebkolccbcehaaGreat
end

section
set_option linter.all false
namespace Go.Proofs.YteebkolccbcehaaGreat
open Go.ChangeShapes Go.WideShapes Go.ChangeAt Go.RowKit
theorem IsW.rowT {w w' : World} {B g b : Nat} {r : Option Nat} {xs : List UInt8} {T : TypeId} {cs : Array Value} {fr : Nat × Nat} (h : IsW w B g r xs) (ht : Turned (fun k => k = g \/ r = some k) w w') (hb : w.heap[b]? = some (.cells cs T fr)) (h1 : T ≠ 70) (h2 : T ≠ 5) : w'.heap[b]? = some (.cells cs T fr) :=
 ht.heap hb fun e => h.noT h1 h2 _ _ _ e hb
theorem IsW.stC {w w' : World} {B g gs : Nat} {r : Option Nat} {xs : List UInt8} {cs : Array Value} {s : St} {K : Nat -> Sl} {X : Nat -> List Ck} (h : IsW w B g r xs) (ht : Turned (fun k => k = g \/ r = some k) w w') (hs : StC w gs cs s K X) : StC w' gs cs s K X :=
 hs.turned ht (fun e => h.noT (T := 57) (by decide) (by decide) _ _ _ e hs.row) h.noCk
theorem IsW.ckOk {w w' : World} {B g : Nat} {r : Option Nat} {xs : List UInt8} {k : Ck} (h : IsW w B g r xs) (ht : Turned (fun k => k = g \/ r = some k) w w') (hk : CkOk w k) : CkOk w' k := hk.turned ht h.noInts
theorem IsW.bel {w w' : World} {B g : Nat} {r : Option Nat} {xs : List UInt8} (h : IsW w B g r xs) (hb : Below w.heap.size w w') : IsW w' B g r xs := h.turned (p := fun _ => False) (.of_below hb) id (fun _ _ e => e)
theorem two_ints {w : World} {b : Nat} {a1 a2 : Int} (h : w.heap[b]? = some (.cells #[.int .i64 a1, .int .i64 a2] 3 (0, 0))) : zQ w ⟨some ⟨b, 0, none⟩, 2, 2⟩ [a1, a2] :=
 ⟨rfl, Nat.le_refl _, by show 2 <= maxLen; unfold maxLen; omega, Seen.of_cells h, .inr ⟨_, _, _, _, rfl, h⟩⟩
theorem listN_in {l : List Int} (h : ∀ x ∈ l, 0 <= x /\ x <= 15) (hl : l.length <= 16) : ∀ x ∈ Z7 l, In64 x := fun x hx => by
 unfold Z7 at hx
 unfold In64
 rcases List.mem_cons.1 hx with rfl | hx
 ·omega
 ·have := h x hx; omega
theorem chkN_in {last : Int} {k : Chk} (h0 : 0 <= last /\ last <= 35184372088832) (hk : Z4 k) : ∀ x ∈ chkN last k, In64 x := fun x hx => by
 have h1 := hk.id; have h2 := hk.ep
 unfold chkN at hx
 simp only [List.mem_append, List.mem_cons, List.not_mem_nil, or_false] at hx
 rcases hx with ((rfl | rfl) | hx) | hx
 ·unfold In64; omega
 ·unfold In64; omega
 ·exact listN_in hk.ms hk.ml x hx
 ·exact listN_in hk.js hk.jl x hx
theorem chkN_len {last : Int} {k : Chk} (hk : Z4 k) : (chkN last k).length <= 36 := by
 have h1 := hk.ml; have h2 := hk.jl
 unfold chkN Z7
 simp only [List.length_append, List.length_cons, List.length_nil]
 omega
theorem lastK_in : ∀ {last : Int} {l : List Chk}, 0 <= last /\ last <= 35184372088832 -> (∀ k ∈ l, Z4 k) -> 0 <= yT last l /\ yT last l <= 35184372088832
 | _, [], h, _ => h
 | _, k :: r, _, hk => lastK_in (last := k.id) (l := r) (hk k (by simp)).id fun x hx => hk x (by simp [hx])
theorem chksN_in : ∀ {last : Int} {l : List Chk}, 0 <= last /\ last <= 35184372088832 -> (∀ k ∈ l, Z4 k) -> (∀ x ∈ yM last l, In64 x) /\ (yM last l).length <= 36 * l.length
 | _, [], _, _ => ⟨fun x hx => (by cases hx), by simp [yM]⟩
 | last, k :: r, h0, hk => by
  obtain ⟨h1, h2⟩ := chksN_in (last := k.id) (l := r) (hk k (by simp)).id fun x hx => hk x (by simp [hx])
  have h3 := chkN_len (last := last) (hk k (by simp))
  refine ⟨fun x hx => ?_, ?_⟩
  ·unfold yM at hx
   rcases List.mem_append.1 hx with hx | hx
   ·exact chkN_in h0 (hk k (by simp)) x hx
   ·exact h1 x hx
  ·unfold yM
   rw [List.length_append, List.length_cons]
   omega
def volT (v : Vol) (j : Nat) : List Int := [v.bl] ++ xP v.p ++ [v.ver] ++ yM 0 (v.ks.take j)
theorem Yo {v : Vol} (hv : Xo v) (j : Nat) : (∀ x ∈ volT v j, In64 x) /\ (volT v j).length <= 2400 := by
 obtain ⟨h1, h2⟩ := chksN_in (last := 0) (l := v.ks.take j) (by omega) fun k hk => hv.ks k (List.mem_of_mem_take hk)
 have h3 : (v.ks.take j).length <= 64 := by rw [List.length_take]; have := hv.kl; omega
 have hp := hv.p
 have hb := hv.bl
 have hr := hv.ver
 unfold InP at hp
 refine ⟨fun x hx => ?_, ?_⟩
 ·unfold volT xP at hx
  simp only [List.mem_append, List.mem_cons, List.not_mem_nil, or_false] at hx
  rcases hx with ((rfl | rfl | rfl | rfl | rfl) | rfl) | hx
  ·unfold In64; omega
  ·exact hp.1
  ·exact hp.2.1
  ·exact hp.2.2.1
  ·exact hp.2.2.2
  ·unfold In64; omega
  ·exact h1 x hx
 ·unfold volT xP
  simp only [List.length_append, List.length_cons, List.length_nil]
  omega
theorem volT_step {v : Vol} {j : Nat} {k : Chk} (h : v.ks[j]? = some k) : volT v (j + 1) = volT v j ++ ([k.id - yT 0 (v.ks.take j), k.ep] ++ Z7 k.ms ++ Z7 k.js) := by
 obtain ⟨h1, h2⟩ := List.getElem?_eq_some_iff.1 h
 unfold volT
 rw [List.take_succ_eq_append_getElem h1, h2, chksN_snoc, <- List.append_assoc]
 rfl
theorem lastK_step {v : Vol} {j : Nat} {k : Chk} (h : v.ks[j]? = some k) : yT 0 (v.ks.take (j + 1)) = k.id := by
 obtain ⟨h1, h2⟩ := List.getElem?_eq_some_iff.1 h
 rw [List.take_succ_eq_append_getElem h1, h2, ZW]
theorem volT_bytes {v : Vol} (hv : Xo v) (j : Nat) {xs : List UInt8} (hx : xs.length <= 700000) : (xs ++ putB (volT v j)).length <= 750000 := by
 have := xa _ (Yo hv j).1
 have := (Yo hv j).2
 rw [List.length_append]
 omega
attribute [local go_sem ↓] yA yd yv
set_option maxRecDepth 100000 in
set_option maxHeartbeats 7000000 in
theorem Vput (B gw g i : Nat) (r : Option Nat) (xs : List UInt8) (s : St) (w : World) (hw : IsW w B gw r xs) (hx : xs.length <= 700000) (h : StAt w g s) (hf : yF s) (hi : i < 64) :
  Calls Tryz.prog 30 #[.pointer (some ⟨g, 16 + i * 7, none⟩), .pointer (some ⟨gw, 0, none⟩)] w fun e w' => e = .returned (.tuple #[]) /\ yh B gw r (xs ++ putB (volN (s.vs i))) w w' := by
 obtain ⟨cs, K, X, h⟩ := h
 have hvf := hf.vs i hi
 obtain ⟨v, hv⟩ : ∃ v, s.vs i = v := ⟨_, rfl⟩
 have a0 : w.cell? ⟨g, 16 + i * 7, none⟩ = some (.int .i64 v.bl) := by rw [h.cell, h.c0 i hi, hv]
 have KW := ihq (Zi B gw r xs v.bl w hw (by omega) (by rw [hv] at hvf; have := hvf.bl; omega) (by rw [hv] at hvf; have := hvf.bl; omega))
 rw [hv] at hvf
 rw [hv]
 have H := ihq h; have Hf := ihq hvf; have Hx := ihq hx; have Hw := ihq hw; have Hv := ihq hv
 clear h hf hvf hx hw hv
 go_enter Tryz.func30, Tryz.ntmps30
 go_wp2_with fail
 refine KW.out.mono ?_
 rintro e w2 ⟨rfl, hg2⟩
 obtain ⟨r2, hw2, hr2, ht2⟩ := hg2
 have h2 := Hw.out.stC ht2 H.out
 have lp := zZ (w := w2) (g := g) (o := 16 + i * 7 + 1) (p := v.p) ⟨by rw [h2.cell, h2.c1 i hi, Hv.out], by rw [Nat.add_assoc, h2.cell, <- Nat.add_assoc]; rw [h2.c2 i hi, Hv.out], by rw [h2.cell]; exact (h2.c3 i hi).trans (by rw [Hv.out]), by rw [h2.cell]; exact (h2.c4 i hi).trans (by rw [Hv.out]), Hf.out.p⟩
 have KN := ihq (VNums v.p w2 Hf.out.p)
 have Hw2 := ihq hw2; have HR2 := ihq (And.intro hr2 ht2); have H2 := ihq h2
 clear hw2 hr2 ht2 h2 a0
 go_wp2_with fail
 refine KN.out.mono ?_
 rintro e w3 ⟨b, rfl, hbb, hI3, hb3⟩
 have hw3 := Hw2.out.bel hb3
 have hP : ∀ x ∈ xP v.p, In64 x := fun x hx => (Yo Hf.out 0).1 x (by unfold volT; simp [hx])
 have l1 : (xs ++ numB v.bl.toNat).length <= 750000 := by
  have h9 := xa [v.bl] (fun x hx => (Yo Hf.out 0).1 x (by rw [List.mem_singleton] at hx; subst hx; simp [volT]))
  rw [xq] at h9
  rw [List.length_append]
  have := Hx.out
  simp at h9
  omega
 have KP := ihq (Y8 B gw r2 _ _ (xP v.p) w3 hw3 (by omega) hI3 (by simp [xP]) hP)
 have Hw3 := ihq hw3; have HG3 := ihq (yh.bel (⟨r2, Hw2.out, HR2.out.1, HR2.out.2⟩ : yh B gw r _ w w2) hb3); have H3 := ihq (H2.out.below hb3)
 have HR3 := ihq (show (∀ k, r2 = some k -> r = some k \/ w.heap.size <= k) /\ Turned (fun k => k = gw \/ r = some k) w w3 from ⟨HR2.out.1, HR2.out.2.trans (Turned.of_below hb3 (p := fun _ => False)) (fun _ e => e) (fun _ _ e => e.elim)⟩)
 have L1 := ihq l1
 clear hw3 hI3 hb3 hbb hP l1 lp KN KW
 go_wp2_with fail
 refine KP.out.mono ?_
 rintro e w4 ⟨rfl, hg4⟩
 have hg4' := yh.then Hw3.out HR3.out hg4
 obtain ⟨r4, hw4, hr4, ht4⟩ := hg4
 have h4 := Hw3.out.stC ht4 H3.out
 obtain ⟨q4, hq4, hr4', ht4'⟩ := hg4'
 have e4 : xs ++ numB v.bl.toNat ++ putB (xP v.p) = xs ++ putB ([v.bl] ++ xP v.p) := by rw [List.append_assoc, <- xq, <- zI]
 rw [e4] at hq4
 have l4 : (xs ++ putB ([v.bl] ++ xP v.p)).length <= 750000 := by
  have h9 := xa ([v.bl] ++ xP v.p) (fun x hx => (Yo Hf.out 0).1 x (by unfold volT; simp at hx ⊢; rcases hx with h | h <;> simp [h]))
  rw [List.length_append]
  have := Hx.out
  simp [xP] at h9 ⊢
  omega
 have a2 : w4.cell? ⟨g, 16 + i * 7 + 5, none⟩ = some (.int .i64 v.ver) := by rw [h4.cell]; exact (h4.c5 i hi).trans (by rw [Hv.out])
 have KW4 := ihq (Zi B gw q4 _ v.ver w4 hq4 (by omega) (by have := Hf.out.ver; omega) (by have := Hf.out.ver; omega))
 have H4 := ihq h4; have Hq4 := ihq hq4; have HR4 := ihq (And.intro hr4' ht4')
 clear hw4 hr4 ht4 h4 hq4 hr4' ht4' e4 l4 KP
 go_wp2_with fail
 refine KW4.out.mono ?_
 rintro e w5 ⟨rfl, hg5⟩
 have hg5' := yh.then Hq4.out HR4.out hg5
 obtain ⟨_, _, _, ht5⟩ := hg5
 have h5 := Hq4.out.stC ht5 H4.out
 have e5 : xs ++ putB ([v.bl] ++ xP v.p) ++ numB v.ver.toNat = xs ++ putB (volT v 0) := by rw [List.append_assoc, <- xq, <- zI]; simp [volT, yM]
 rw [e5] at hg5'
 obtain ⟨n, hn⟩ : ∃ n, (K i).n = n := ⟨_, rfl⟩
 have a3 : w5.cell? ⟨g, 16 + i * 7 + 6, none⟩ = some (.slice (K i).A n (K i).c) := by rw [h5.cell, h5.c6 i hi, hn]
 have hkl : v.ks.length = n := by have := h5.len hi; rw [Hv.out] at this; omega
 have Hg5 := ihq hg5'; have H5 := ihq h5; have Hkl := ihq hkl; have Hn := ihq hn
 have hk64 : n <= 64 := by have := Hf.out.kl; omega
 clear ht5 h5 e5 hg5' hkl hn a2 KW4
 obtain ⟨A0, hA0⟩ : ∃ A0, (K i).A = A0 := ⟨_, rfl⟩
 rw [hA0] at a3
 have HA0 := ihq hA0
 clear hA0
 go_wp2
 clear a3
 go_loopw [4, 31] (fun lv iv wr => ∃ j : Nat, j <= n /\ lv = .int .i64 (yT 0 (v.ks.take j)) /\ iv = .int .i64 (j : Int) /\ yh B gw r (xs ++ putB (volT v j)) w wr) (fun _ iv _ => n - (intOf iv).toNat)
 case atStart => exact ⟨0, Nat.zero_le _, rfl, rfl, Hg5.out⟩
 case round =>
  obtain ⟨j, hjn, rfl, rfl, hg⟩ := hrel
  by_cases hj : j < n
  ·obtain ⟨r1, hw1, hr1, ht1⟩ := hg
   have h1 := Hw.out.stC ht1 H.out
   have j0 : (0 : Int) <= (j : Int) := by omega
   have j1 : (j : Int) < (n : Int) := by omega
   obtain ⟨kk, hkk⟩ : ∃ kk, (X i)[j]? = some kk := ⟨_, List.getElem?_eq_getElem (by have := (h1.ks i hi).len; have := Hn.out; omega)⟩
   have hkd : v.ks[j]? = some kk.dat := by rw [<- Hv.out, <- h1.dat i hi, List.getElem?_map, hkk]; rfl
   obtain ⟨gk, ok, hA, hat⟩ := (h1.ks i hi).get hkk
   have hok := (h1.ks i hi).ok kk (List.mem_of_getElem? hkk)
   have hfit := Hf.out.ks kk.dat (List.mem_of_getElem? hkd)
   have hla := lastK_in (last := 0) (l := v.ks.take j) (by omega) fun k hk => Hf.out.ks k (List.mem_of_mem_take hk)
   have hst := volT_step hkd
   have hls := lastK_step hkd
   have L := volT_bytes Hf.out (j + 1) Hx.out
   obtain ⟨la, hlae⟩ : ∃ la, yT 0 (v.ks.take j) = la := ⟨_, rfl⟩
   rw [hlae] at hla hst ⊢
   rw [hst, zI, zI, zI] at L
   simp only [List.length_append] at L
   have hcin := chkN_in hla hfit
   obtain ⟨kid, kvo, kep, km, kj, kms, kjs⟩ := kk
   simp only [Ck.dat] at hst hls L hfit hcin
   have hid := hfit.id; have hep := hfit.ep
   simp only at hid hep
   obtain ⟨w6, w7, hw6, hst7, hb7, hr7⟩ := yq wr ⟨kid, kvo, kep, km, kj, kms, kjs⟩
   have hld := zC hat
   simp only at hst7 hr7 hld
   obtain ⟨w8, hw8⟩ : ∃ w8, w7.alloc (.cells #[.int .i64 (kid - la), .int .i64 kep] 3) = w8 := ⟨_, rfl⟩
   have hb8 : Below w7.heap.size w7 w8 := by rw [<- hw8]; exact zg _ _
   have hi8 : zQ w8 ⟨some ⟨w7.heap.size, 0, none⟩, 2, 2⟩ [kid - la, kep] := by rw [<- hw8]; exact two_ints (heap_alloc_new _ _)
   have hb18 := hb7.trans (hb8.mono hb7.size)
   have hw18 := hw1.bel hb18
   have hr18 : (∀ k, r1 = some k -> r = some k \/ w.heap.size <= k) /\ Turned (fun k => k = gw \/ r = some k) w w8 := ⟨hr1, ht1.trans (Turned.of_below hb18 (p := fun _ => False)) (fun _ e => e) (fun _ _ e => e.elim)⟩
   have c0 : w7.cell? ⟨wr.heap.size, 0, none⟩ = some (.int .i64 kid) := zc hr7 0
   have c2 : w7.cell? ⟨wr.heap.size, 2, none⟩ = some (.int .i64 kep) := zc hr7 2
   have KP := ihq (Y8 B gw r1 _ _ [kid - la, kep] w8 hw18 (by rw [List.length_append]; omega) hi8 (by simp) (fun x hx => hcin x (by unfold chkN; simp only [List.mem_append]; exact .inl (.inl hx))))
   have HW8 := ihq hw18; have HR8 := ihq hr18; have Hr8 := ihq (za hr7 hb8); have Hok8 := ihq (hok.below hb18); have Hst := ihq hst; have Hls := ihq hls; have HL := ihq L; have Hft := ihq hfit
   rw [HA0.out] at hA
   subst hA
   have k1 : -9223372036854775808 <= kid - la := by omega
   have k2 : kid - la <= 9223372036854775807 := by omega
   clear hw1 hr1 ht1 h1 hkk hkd hat hok hst hls L hcin hfit hb7 hb8 hi8 hb18 hw18 hr18 hr7 hlae
   go_wp2_with fail
   refine KP.out.mono ?_
   rintro e w9 ⟨rfl, hg9⟩
   obtain ⟨q9, hq9, hr9, ht9⟩ := yh.then HW8.out HR8.out hg9
   obtain ⟨_, _, _, hu9⟩ := hg9
   have hrow9 := HW8.out.rowT hu9 Hr8.out (by decide) (by decide)
   have hok9 := HW8.out.ckOk hu9 Hok8.out
   have c3 : w9.cell? ⟨wr.heap.size, 3, none⟩ = some (.slice km.A km.n km.c) := zc hrow9 3
   have KL := ihq (VputList B gw q9 _ km kms w9 hq9 (by have := HL.out; simp only [List.length_append]; omega) hok9.m (by have := Hft.out.ml; simp only at this; omega) (fun x hx => by have := Hft.out.ms x hx; unfold In64; omega))
   have HW9 := ihq hq9; have HR9 := ihq (And.intro hr9 ht9); have Hr9 := ihq hrow9; have Hok9 := ihq hok9
   clear hq9 hr9 ht9 hu9 hrow9 hok9 KP hld hst7 hw6 hw8 c0 c2
   go_wp2_with fail
   refine KL.out.mono ?_
   rintro e w10 ⟨rfl, hg10⟩
   obtain ⟨q10, hq10, hr10, ht10⟩ := yh.then HW9.out HR9.out hg10
   obtain ⟨_, _, _, hu10⟩ := hg10
   have hrow10 := HW9.out.rowT hu10 Hr9.out (by decide) (by decide)
   have hok10 := HW9.out.ckOk hu10 Hok9.out
   have c4 : w10.cell? ⟨wr.heap.size, 4, none⟩ = some (.slice kj.A kj.n kj.c) := zc hrow10 4
   have KJ := ihq (VputList B gw q10 _ kj kjs w10 hq10 (by have := HL.out; simp only [List.length_append]; omega) hok10.j (by have := Hft.out.jl; simp only at this; omega) (fun x hx => by have := Hft.out.js x hx; unfold In64; omega))
   have HW10 := ihq hq10; have HR10 := ihq (And.intro hr10 ht10); have Hr10 := ihq hrow10
   clear hq10 hr10 ht10 hu10 hrow10 hok10 KL c3
   go_wp2_with fail
   refine KJ.out.mono ?_
   rintro e w11 ⟨rfl, hg11⟩
   have hg11' := yh.then HW10.out HR10.out hg11
   obtain ⟨_, _, _, hu11⟩ := hg11
   have c5 : w11.cell? ⟨wr.heap.size, 0, none⟩ = some (.int .i64 kid) := zc (HW10.out.rowT hu11 Hr10.out (by decide) (by decide)) 0
   have Hg11 := ihq hg11'
   clear hg11' hu11 KJ c4
   go_wp2
   go_roundw
   case rel =>
    refine ⟨j + 1, by omega, by rw [Hls.out], by go_num, ?_⟩
    rw [Hst.out, zI, zI, zI]
    simpa only [List.append_assoc] using Hg11.out
   case measure => simp [intOf]; omega
  ·obtain rfl : j = n := by omega
   have j1 : ¬ (j : Int) < (j : Int) := by omega
   have Hg := ihq hg
   clear hg
   go_wp2
   go_end0
   refine ⟨rfl, ?_⟩
   have := Hg.out
   unfold volT at this
   rw [List.take_of_length_le (by rw [Hkl.out]; exact Nat.le_refl _)] at this
   exact this
end Go.Proofs.YteebkolccbcehaaGreat
end
