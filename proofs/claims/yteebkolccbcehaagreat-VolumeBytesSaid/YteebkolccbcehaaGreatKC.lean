/-
  Joined: PolOpen, VolOpen, VolEq, SameI, VolSame. Conditions: each theorem's own.
-/
import Derived.Test.YteebkolccbcehaaGreatJB
import Derived.Test.YteebkolccbcehaaGreatJA
import Derived.Test.YteebkolccbcehaaGreatVolDrop
import Derived.Test.YteebkolccbcehaaGreatJL
import Derived.Laws.StructEq
import Derived.BigQuiet
import Derived.Deep.QuietTactic
import Derived.Test.YteebkolccbcehaaGreatProg

section
set_option linter.all false
namespace Go.Proofs.YteebkolccbcehaaGreat
open Go.ChangeShapes Go.WideShapes Go.ChangeAt Go.RowKit
section
variable {H : Type} {enc : TypeId × Value -> H} {P : Program}
end
end Go.Proofs.YteebkolccbcehaaGreat
end

section
set_option linter.all false
namespace Go.Proofs.YteebkolccbcehaaGreat
open Go.ChangeShapes Go.WideShapes Go.ChangeAt Go.RowKit
def cmdV (c : Cmd) : List Value := [.int .i64 c.k, .int .i64 c.a, .int .i64 c.b, .int .i64 c.c, .int .i64 c.p.re, .int .i64 c.p.we, .int .i64 c.p.li, .int .i64 c.p.bu]
def xT (w : World) (g q : Nat) (c : Cmd) : Prop := w.rangeAt g q (cmdV c) /\ yj c
def Ze (w : World) (A : Option Addr) (l : List Cmd) : Prop :=
 l = [] \/ ∃ g o, A = some ⟨g, o, none⟩ /\ ∀ i c, l[i]? = some c -> xT w g (o + i * 8) c
theorem xT.below {w w' : World} {g q : Nat} {c : Cmd} (h : xT w g q c) (hb : Below w.heap.size w w') : xT w' g q c :=
 ⟨fun j v hv => by rw [hb.cell (block_lt_of_cell (h.1 j v hv))]; exact h.1 j v hv, h.2⟩
theorem Ze.below {w w' : World} {A : Option Addr} {l : List Cmd} (h : Ze w A l) (hb : Below w.heap.size w w') : Ze w' A l := by
 rcases h with rfl | ⟨g, o, hA, hc⟩
 ·exact .inl rfl
 ·exact .inr ⟨g, o, hA, fun i a ha => (hc i a ha).below hb⟩
theorem Ze.get {w : World} {A : Option Addr} {l : List Cmd} (h : Ze w A l) {k : Nat} (hk : k < l.length) : ∃ g o c, A = some ⟨g, o, none⟩ /\ l[k]? = some c /\ xT w g (o + k * 8) c := by
 rcases h with rfl | ⟨g, o, hA, hc⟩
 ·simp at hk
 ·exact ⟨g, o, l[k], hA, List.getElem?_eq_getElem hk, hc k _ (List.getElem?_eq_getElem hk)⟩
section
variable {H : Type} {enc : TypeId × Value -> H} {P : Program}
theorem ZD {W : World} {base : Nat} {spare : Bool} {n : Nat} {x : Value} {y : DataW H × List MemPlace} {t : TypeId} (i0 : P.underlying t = some (.int .i64)) (h : DataW.trod enc P W base (fun _ => true) spare n t [x] = some y) : ∃ v, x = .int .i64 v /\ In64 v := by
 obtain ⟨v, hb, _, hw⟩ := DataW.trod_int i0 h
 simp only [List.cons.injEq, and_true] at hb
 have k := bounds_i64 hw
 exact ⟨v, hb, k.1, k.2⟩
theorem QM {W : World} {base : Nat} {v : Value} {d : DataW H} {p : List MemPlace} {tl te tp : TypeId} {fs gs : Array Field} {f0 f1 f2 f3 f4 g0 g1 g2 g3 : Field} (hl : P.underlying tl = some (.slice te)) (he : P.underlying te = some (.struct fs)) (hf : fs = #[f0, f1, f2, f3, f4])
  (hp : P.underlying tp = some (.struct gs)) (hg : gs = #[g0, g1, g2, g3]) (t4 : f4.type = tp)
  (o : f0.offset = 0 /\ f1.offset = 1 /\ f2.offset = 2 /\ f3.offset = 3 /\ f4.offset = 4) (og : g0.offset = 0 /\ g1.offset = 1 /\ g2.offset = 2 /\ g3.offset = 3)
  {tz : TypeId} (iz : P.underlying tz = some (.int .i64)) (cz : P.cellsOf tz = 1) (ft : f0.type = tz /\ f1.type = tz /\ f2.type = tz /\ f3.type = tz) (gt : g0.type = tz /\ g1.type = tz /\ g2.type = tz /\ g3.type = tz)
  (cp : P.cellsOf tp = 4) (ce : P.cellsOf te = 8) (hval : Value.okWide P W .any base tl v) (h : DataW.Trod enc P W 0 (fun _ => true) true tl v d p) :
  ∃ A n c, ∃ l : List Cmd, v = .slice A n c /\ l.length = n /\ n <= c /\ c <= maxLen /\ Ze W A l := by
 subst hf hg
 obtain ⟨a1, len, cap, rfl⟩ := okWide_slice hl hval
 obtain ⟨fuel, hf⟩ := h
 rcases Go.Deep.open_slice hl hf with ⟨hcs, hx⟩ | ⟨a, len', cap', m, n, D, Pl, hcs, _, hl1, hl2, hm, hx, hel⟩
 ·simp [Value.cells] at hcs
  obtain ⟨rfl, rfl, rfl⟩ := hcs
  exact ⟨none, 0, 0, [], rfl, rfl, Nat.le_refl _, Nat.zero_le _, .inl rfl⟩
 ·simp [Value.cells] at hcs
  obtain ⟨rfl, rfl, rfl⟩ := hcs
  simp only [if_true] at hm
  rw [ce] at hel
  by_cases hz : len = 0
  ·subst hz
   exact ⟨some a, 0, cap, [], rfl, rfl, by omega, hl2, .inl rfl⟩
  have hspot : a.spot = none := by
   obtain ⟨cs', hc, _⟩ := hel 0 (by omega)
   obtain ⟨_, hcl, hat⟩ := World.cells?_some hc
   have h3 := hat 0 (by omega)
   rw [List.getElem?_eq_getElem (by omega)] at h3
   obtain ⟨g, o, sp⟩ := a
   simpa [Addr.add] using World.cell?_spot h3
  obtain ⟨g, oo, sp⟩ := a
  simp only at hspot
  subst hspot
  obtain ⟨l, hll, hlp⟩ := list_of (n := len) (p := fun i f => xT W g (oo + i * 8) f) (fun i hi' => by
   obtain ⟨cs', hc, ht'⟩ := hel i (by omega)
   obtain ⟨_, hcl, hat⟩ := World.cells?_some hc
   obtain ⟨xs, n', _, _, _, hxl, hgt⟩ := DataW.trod_struct he ht'
   have hs' : ∀ j, j < 5 -> j < xs.length := fun j hj => by rw [hxl]; exact hj
   have e0 := hgt 0 f0 rfl
   have e1 := hgt 1 f1 rfl
   have e2 := hgt 2 f2 rfl
   have e3 := hgt 3 f3 rfl
   have e4 := hgt 4 f4 rfl
   rw [o.1, ft.1, cz, List.getElem?_eq_getElem (hs' 0 (by omega))] at e0
   rw [o.2.1, ft.2.1, cz, List.getElem?_eq_getElem (hs' 1 (by omega))] at e1
   rw [o.2.2.1, ft.2.2.1, cz, List.getElem?_eq_getElem (hs' 2 (by omega))] at e2
   rw [o.2.2.2.1, ft.2.2.2, cz, List.getElem?_eq_getElem (hs' 3 (by omega))] at e3
   rw [o.2.2.2.2, t4, cp, List.getElem?_eq_getElem (hs' 4 (by omega))] at e4
   match cs', hcl with
   | [x0, x1, x2, x3, x4, x5, x6, x7], _ =>
    simp only [List.drop_zero, List.take_succ_cons, List.take_zero, List.drop_succ_cons] at e0 e1 e2 e3 e4
    obtain ⟨ys, ny, _, _, _, hyl, hgy⟩ := DataW.trod_struct hp e4
    have hsy : ∀ j, j < 4 -> j < ys.length := fun j hj => by rw [hyl]; exact hj
    have p0 := hgy 0 g0 rfl
    have p1 := hgy 1 g1 rfl
    have p2 := hgy 2 g2 rfl
    have p3 := hgy 3 g3 rfl
    rw [og.1, gt.1, cz, List.getElem?_eq_getElem (hsy 0 (by omega))] at p0
    rw [og.2.1, gt.2.1, cz, List.getElem?_eq_getElem (hsy 1 (by omega))] at p1
    rw [og.2.2.1, gt.2.2.1, cz, List.getElem?_eq_getElem (hsy 2 (by omega))] at p2
    rw [og.2.2.2, gt.2.2.2, cz, List.getElem?_eq_getElem (hsy 3 (by omega))] at p3
    simp only [List.drop_zero, List.take_succ_cons, List.take_zero, List.drop_succ_cons] at p0 p1 p2 p3
    obtain ⟨v0, rfl, k0⟩ := ZD iz e0
    obtain ⟨v1, rfl, k1⟩ := ZD iz e1
    obtain ⟨v2, rfl, k2⟩ := ZD iz e2
    obtain ⟨v3, rfl, k3⟩ := ZD iz e3
    obtain ⟨v4, rfl, k4⟩ := ZD iz p0
    obtain ⟨v5, rfl, k5⟩ := ZD iz p1
    obtain ⟨v6, rfl, k6⟩ := ZD iz p2
    obtain ⟨v7, rfl, k7⟩ := ZD iz p3
    refine ⟨⟨v0, v1, v2, v3, ⟨v4, v5, v6, v7⟩⟩, fun j u hu => ?_, k0, k1, k2, k3, ⟨k4, k5, k6, k7⟩⟩
    have hj : j < 8 := (List.getElem?_eq_some_iff.1 hu).1
    have hq := hat j hj
    simp only [Addr.add_lit] at hq
    rw [hq]
    exact hu)
  exact ⟨_, len, cap, l, rfl, hll, hl1, hl2, .inr ⟨g, oo, rfl, hlp⟩⟩
end
end Go.Proofs.YteebkolccbcehaaGreat
end

section
set_option linter.all false
namespace Go.Proofs.YteebkolccbcehaaGreat
open Go.ChangeShapes Go.WideShapes Go.ChangeAt Go.RowKit
deriving instance DecidableEq for Cmd
set_option maxRecDepth 100000 in
theorem eqPol_in (d : Nat) (p q : Pol) (w : World) : (Op.equalIn (d + 2) 37 (.agg #[.int .i64 p.re, .int .i64 p.we, .int .i64 p.li, .int .i64 p.bu]) (.agg #[.int .i64 q.re, .int .i64 q.we, .int .i64 q.li, .int .i64 q.bu])).run Tryz.prog w = .ok (decide (p = q)) w := by
 rw [run_equalIn_struct w (d + 1) _ _ _ (by unfold Program.fieldsOf; rw [Tryz.underlying37]) (by kernel_rfl)]
 unfold Program.fieldsOf
 rw [Tryz.underlying37]
 simp only [Op.eqFields]
 go_simp
 obtain ⟨a1, a2, a3, a4⟩ := p
 obtain ⟨b1, b2, b3, b4⟩ := q
 simp only [Pol.mk.injEq]
 by_cases h1 : a1 = b1 <;> by_cases h2 : a2 = b2 <;> by_cases h3 : a3 = b3 <;> by_cases h4 : a4 = b4 <;> simp [h1, h2, h3, h4]
end Go.Proofs.YteebkolccbcehaaGreat
end

section
set_option linter.all false
namespace Go.Proofs.YteebkolccbcehaaGreat
open Go.ChangeShapes Go.WideShapes Go.ChangeAt Go.RowKit
theorem Zx {a b : Bool} (h : a = b) : Ending.returned (.bool a) = Ending.returned (.bool b) := by rw [h]
theorem YQ {α : Type} {xs : List α} {k : Nat} {x : α} (h : xs[k]? = some x) : xs.take (k + 1) = xs.take k ++ [x] := by
 obtain ⟨hk, rfl⟩ := List.getElem?_eq_some_iff.1 h
 exact List.take_succ_eq_append_getElem hk
theorem differ_of {α : Type} {xs ys : List α} {k : Nat} {x y : α} (h1 : xs[k]? = some x) (h2 : ys[k]? = some y) (h : x ≠ y) : xs ≠ ys := fun e => by
 rw [e, h2] at h1
 injection h1 with h1
 exact h h1.symm
theorem alike_of {α : Type} {xs ys : List α} {k : Nat} (h : xs.take k = ys.take k) (h1 : xs.length = k) (h2 : ys.length = k) : xs = ys := by
 rw [List.take_of_length_le (by omega), List.take_of_length_le (by omega)] at h
 exact h
set_option maxRecDepth 100000 in
theorem Z2 (A C : Option Addr) (n m c d : Nat) (xs ys : List Int) (w : World) (hn : xs.length = n) (hm : ys.length = m) (ha : Seen w A (zo xs)) (hb : Seen w C (zo ys)) (hl : n <= maxLen) :
  Calls Tryz.prog 67 #[.slice A n c, .slice C m d] w fun e w' => e = .returned (.bool (decide (xs = ys))) /\ Below w.heap.size w w' := by
 have Ha := ihq ha; clear ha
 have Hb := ihq hb; clear hb
 unfold maxLen at hl
 by_cases hnm : n = m
 ·subst hnm
  have Hn := ihq hn; clear hn
  have Hm := ihq hm; clear hm
  go_enter Tryz.func67, Tryz.ntmps67
  go_wp2
  go_loopw [5] (fun i wr => ∃ k : Nat, k <= n /\ i = .int .i64 k /\ Below w.heap.size w wr /\ xs.take k = ys.take k) (fun i _ => n - (intOf i).toNat)
  case atStart => exact ⟨0, by omega, rfl, Below.refl _ _, rfl⟩
  case round =>
   obtain ⟨k, hk, rfl, hbw, htk⟩ := hrel
   have Hbw := ihq hbw; clear hbw
   have Htk := ihq htk; clear htk
   by_cases hlt : k < n
   ·obtain ⟨g, o, x, rfl, hx, hc⟩ := (Ha.out.below Hbw.out).num (j := k) (by have := Hn.out; omega)
    obtain ⟨g2, o2, y, rfl, hy, hc2⟩ := (Hb.out.below Hbw.out).num (j := k) (by have := Hm.out; omega)
    have Hx := ihq hx; clear hx
    have Hy := ihq hy; clear hy
    have b0 : (0 : Int) <= (k : Int) := by omega
    have b1 : (k : Int) < (n : Int) := by omega
    by_cases he : x = y
    ·have hq : (x != y) = false := by rw [he]; simp
     have He := ihq he; clear he
     go_wp2
     go_quiet (fail)
     go_wp2
     go_roundw
     case rel => exact ⟨k + 1, by omega, by go_num, yi Hbw.out _, by rw [YQ Hx.out, YQ Hy.out, Htk.out, He.out]⟩
     case measure => simp [intOf]; omega
    ·have hq : (x != y) = true := by simpa using he
     have He := ihq he; clear he
     go_wp2
     go_quiet (fail)
     go_wp2
     go_ret
     exact ⟨Zx (by rw [decide_eq_false (differ_of Hx.out Hy.out He.out)]), yi Hbw.out _⟩
   ·obtain rfl : k = n := by omega
    go_wp2
    go_ret
    exact ⟨Zx (by rw [decide_eq_true (alike_of Htk.out Hn.out Hm.out)]), Hbw.out⟩
 ·go_enter Tryz.func67, Tryz.ntmps67
  go_wp2
  go_ret
  exact ⟨Zx (by rw [decide_eq_false]; intro e; rw [e] at hn; omega), Below.refl _ _⟩
end Go.Proofs.YteebkolccbcehaaGreat
end

section
set_option linter.all false
namespace Go.Proofs.YteebkolccbcehaaGreat
open Go.ChangeShapes Go.WideShapes Go.ChangeAt Go.RowKit
theorem eqPol_run (p q : Pol) (w : World) : (binOp .eql 37 (.agg #[.int .i64 p.re, .int .i64 p.we, .int .i64 p.li, .int .i64 p.bu]) (.agg #[.int .i64 q.re, .int .i64 q.we, .int .i64 q.li, .int .i64 q.bu])).run Tryz.prog w = .ok (.bool (decide (p = q))) w := by
 rw [run_eql_struct, eqPol_in 9998 p q w]
 rfl
theorem neqPol_run (p q : Pol) (w : World) : (binOp .neq 37 (.agg #[.int .i64 p.re, .int .i64 p.we, .int .i64 p.li, .int .i64 p.bu]) (.agg #[.int .i64 q.re, .int .i64 q.we, .int .i64 q.li, .int .i64 q.bu])).run Tryz.prog w = .ok (.bool (!decide (p = q))) w := by
 rw [run_neq_struct, eqPol_in 9998 p q w]
 rfl
theorem XC (op : BinOp) (x y : Operand) (p q : Pol) (w : World) : (eqGuard op 37 x y (.agg #[.int .i64 p.re, .int .i64 p.we, .int .i64 p.li, .int .i64 p.bu]) (.agg #[.int .i64 q.re, .int .i64 q.we, .int .i64 q.li, .int .i64 q.bu])).run Tryz.prog w = .ok () w :=
 run_eqGuard_agg w op _ x y _ _ (by kernel_rfl)
def voL (id bl : Int) (p : Pol) (ver : Int) (S : Sl) : Array Value := #[.int .i64 id, .int .i64 bl, .int .i64 p.re, .int .i64 p.we, .int .i64 p.li, .int .i64 p.bu, .int .i64 ver, .slice S.A S.n S.c]
attribute [local go_sem ↓] yA
set_option maxRecDepth 100000 in
set_option maxHeartbeats 2000000 in
theorem VSameVolume (id bl ver : Int) (p : Pol) (S T : Sl) (us : List Int) (w : World) (hp : InP p) (hS : us.length = S.n) (hT : us.length = T.n) (hm : S.n <= maxLen) (sS : Seen w S.A (zo us)) (sT : Seen w T.A (zo us)) :
  Calls Tryz.prog 33 #[.agg (voL id bl p ver S), .agg (voL id bl p ver T)] w fun e w' => e = .returned (.bool true) /\ Below w.heap.size w w' := by
 unfold voL
 obtain ⟨w1, hw1, hb1, hr1⟩ : ∃ w1, w.alloc (.cells #[.int .i64 id, .int .i64 bl, .int .i64 p.re, .int .i64 p.we, .int .i64 p.li, .int .i64 p.bu, .int .i64 ver, .slice S.A S.n S.c] 49) = w1 /\ Below w.heap.size w w1 /\ w1.heap[w.heap.size]? = some (.cells #[.int .i64 id, .int .i64 bl, .int .i64 p.re, .int .i64 p.we, .int .i64 p.li, .int .i64 p.bu, .int .i64 ver, .slice S.A S.n S.c] 49 (0, 0)) := ⟨_, rfl, zg _ _, heap_alloc_new _ _⟩
 obtain ⟨w2, hw2, hb2, hr2⟩ : ∃ w2, w1.alloc (.cells #[.int .i64 id, .int .i64 bl, .int .i64 p.re, .int .i64 p.we, .int .i64 p.li, .int .i64 p.bu, .int .i64 ver, .slice T.A T.n T.c] 49) = w2 /\ Below w1.heap.size w1 w2 /\ w2.heap[w1.heap.size]? = some (.cells #[.int .i64 id, .int .i64 bl, .int .i64 p.re, .int .i64 p.we, .int .i64 p.li, .int .i64 p.bu, .int .i64 ver, .slice T.A T.n T.c] 49 (0, 0)) := ⟨_, rfl, zg _ _, heap_alloc_new _ _⟩
 have hr12 := za hr1 hb2
 have hb12 := hb1.trans (hb2.mono hb1.size)
 have a0 : w2.cell? ⟨w.heap.size, 0, none⟩ = some (.int .i64 id) := zc hr12 0
 have a1 : w2.cell? ⟨w.heap.size, 1, none⟩ = some (.int .i64 bl) := zc hr12 1
 have a2 := zZ (w := w2) (g := w.heap.size) (o := 2) (p := p) ⟨zc hr12 2, zc hr12 3, zc hr12 4, zc hr12 5, hp⟩
 have a6 : w2.cell? ⟨w.heap.size, 6, none⟩ = some (.int .i64 ver) := zc hr12 6
 have a7 : w2.cell? ⟨w.heap.size, 7, none⟩ = some (.slice S.A S.n S.c) := zc hr12 7
 have b0 : w2.cell? ⟨w1.heap.size, 0, none⟩ = some (.int .i64 id) := zc hr2 0
 have b1 : w2.cell? ⟨w1.heap.size, 1, none⟩ = some (.int .i64 bl) := zc hr2 1
 have b2 := zZ (w := w2) (g := w1.heap.size) (o := 2) (p := p) ⟨zc hr2 2, zc hr2 3, zc hr2 4, zc hr2 5, hp⟩
 have b6 : w2.cell? ⟨w1.heap.size, 6, none⟩ = some (.int .i64 ver) := zc hr2 6
 have b7 : w2.cell? ⟨w1.heap.size, 7, none⟩ = some (.slice T.A T.n T.c) := zc hr2 7
 have e1 : (id == id) = true := by simp
 have e2 : (bl == bl) = true := by simp
 have e3 : (ver == ver) = true := by simp
 have hq := fun W => eqPol_run p p W
 rw [decide_eq_true (rfl : p = p)] at hq
 have hg := fun a b W => XC .eql a b p p W
 have KI := ihq (Z2 S.A T.A S.n T.n S.c T.c us us w2 hS hT (sS.below hb12) (sT.below hb12) hm)
 rw [decide_eq_true (rfl : us = us)] at KI
 have Hb := ihq hb12
 clear hb1 hb2 hr1 hr2 hr12 hb12 hS hT sS sT hm hp
 go_enter Tryz.func33, Tryz.ntmps33
 go_wp2_with (go_at_call 67; refine KI.out.mono ?_; rintro e w3 ⟨rfl, hb3⟩; have Hb3 := ihq (Hb.out.trans (hb3.mono Hb.out.size)); clear hb3)
 go_ret
 exact ⟨rfl, Hb3.out⟩
set_option maxRecDepth 100000 in
set_option maxHeartbeats 2000000 in
theorem VSameChunk (id vo ep : Int) (S T U V : Sl) (us vs : List Int) (w : World) (hS : us.length = S.n) (hT : us.length = T.n) (hm : S.n <= maxLen) (sS : Seen w S.A (zo us)) (sT : Seen w T.A (zo us)) (hU : vs.length = U.n) (hV : vs.length = V.n) (hm2 : U.n <= maxLen) (sU : Seen w U.A (zo vs)) (sV : Seen w V.A (zo vs)) :
  Calls Tryz.prog 35 #[.agg #[.int .i64 id, .int .i64 vo, .int .i64 ep, .slice S.A S.n S.c, .slice U.A U.n U.c], .agg #[.int .i64 id, .int .i64 vo, .int .i64 ep, .slice T.A T.n T.c, .slice V.A V.n V.c]] w fun e w' => e = .returned (.bool true) /\ Below w.heap.size w w' := by
 obtain ⟨w1, hw1, hb1, hr1⟩ := Zc w ⟨id, vo, ep, S, U, us, vs⟩
 obtain ⟨w2, hw2, hb2, hr2⟩ := Zc w1 ⟨id, vo, ep, T, V, us, vs⟩
 simp only at hw1 hw2 hr1 hr2
 have hr12 := za hr1 hb2
 have hb12 := hb1.trans (hb2.mono hb1.size)
 have e1 : (id == id) = true := by simp
 have e2 : (vo == vo) = true := by simp
 have e3 : (ep == ep) = true := by simp
 have a0 : w2.cell? ⟨w.heap.size, 0, none⟩ = some (.int .i64 id) := zc hr12 0
 have a1 : w2.cell? ⟨w.heap.size, 1, none⟩ = some (.int .i64 vo) := zc hr12 1
 have a2 : w2.cell? ⟨w.heap.size, 2, none⟩ = some (.int .i64 ep) := zc hr12 2
 have a3 : w2.cell? ⟨w.heap.size, 3, none⟩ = some (.slice S.A S.n S.c) := zc hr12 3
 have b0 : w2.cell? ⟨w1.heap.size, 0, none⟩ = some (.int .i64 id) := zc hr2 0
 have b1 : w2.cell? ⟨w1.heap.size, 1, none⟩ = some (.int .i64 vo) := zc hr2 1
 have b2 : w2.cell? ⟨w1.heap.size, 2, none⟩ = some (.int .i64 ep) := zc hr2 2
 have b3 : w2.cell? ⟨w1.heap.size, 3, none⟩ = some (.slice T.A T.n T.c) := zc hr2 3
 have KI := ihq (Z2 S.A T.A S.n T.n S.c T.c us us w2 hS hT (sS.below hb12) (sT.below hb12) hm)
 rw [decide_eq_true (rfl : us = us)] at KI
 have KJ := ihq (fun W (hb : Below w.heap.size w W) => Z2 U.A V.A U.n V.n U.c V.c vs vs W hU hV (sU.below hb) (sV.below hb) hm2)
 rw [decide_eq_true (rfl : vs = vs)] at KJ
 have Hb := ihq hb12; have Hr := ihq (And.intro hr12 hr2)
 clear hb1 hb2 hr1 hr2 hr12 hb12 hS hT sS sT hm hU hV sU sV hm2
 go_enter Tryz.func35, Tryz.ntmps35
 go_wp2_with fail
 refine KI.out.mono ?_
 rintro e w3 ⟨rfl, hb3⟩
 have a4 : w3.cell? ⟨w.heap.size, 4, none⟩ = some (.slice U.A U.n U.c) := zc (za Hr.out.1 hb3) 4
 have b4 : w3.cell? ⟨w1.heap.size, 4, none⟩ = some (.slice V.A V.n V.c) := zc (za Hr.out.2 hb3) 4
 have hb03 := Hb.out.trans (hb3.mono Hb.out.size)
 have KJ3 := ihq (KJ.out w3 hb03)
 have Hb3 := ihq hb03
 clear hb3 hb03 a0 a1 a2 a3 b0 b1 b2 b3
 go_wp2_with (go_at_call 67; refine KJ3.out.mono ?_; rintro e w4 ⟨rfl, hb4⟩; have Hb4 := ihq (Hb3.out.trans (hb4.mono Hb3.out.size)); clear hb4)
 go_ret
 exact ⟨rfl, Hb4.out⟩
end Go.Proofs.YteebkolccbcehaaGreat
end
