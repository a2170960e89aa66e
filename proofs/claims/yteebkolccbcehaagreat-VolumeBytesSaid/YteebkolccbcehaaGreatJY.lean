/-
  Joined: Byt7, Byt8, BytesEq. Conditions: each theorem's own.
-/
import Derived.Test.YteebkolccbcehaaGreatByt6
import Derived.Test.YteebkolccbcehaaGreatJA
import Derived.Test.YteebkolccbcehaaGreatRows
import Derived.Laws.BytesArg

section
set_option linter.all false
namespace Go.Proofs.YteebkolccbcehaaGreat
open Go.ChangeShapes Go.WideShapes Go.ChangeAt Go.RowKit
structure RdS where
 s : St
 bs : List UInt8
 e : Nat
def xE (q : RdS) : RdS :=
 let i := zM q.bs q.e 15
 let n := rdM i.2.1 i.2.2
 ⟨{ q.s with pk := fun j => if (j : Int) = ((i.1 : Nat) : Int) then (n.1 : Int) else q.s.pk j }, n.2.1, n.2.2⟩
def xy (q : RdS) : RdS :=
 let i := zM q.bs q.e 63
 let v := xH (i.1 : Int) i.2.1 i.2.2
 ⟨setV q.s i.1 v.1, v.2.1, v.2.2⟩
def yQ (f : RdS -> RdS) : Nat -> RdS -> RdS
 | 0, q => q
 | k + 1, q => f (yQ f k q)
def Zt (bs : List UInt8) : RdS :=
 let m := zM bs 0 zH
 let n := zM m.2.1 m.2.2 16
 let q := yQ xE n.1 ⟨{ st0 with md := (m.1 : Int) }, n.2.1, n.2.2⟩
 let k := zM q.bs q.e 64
 yQ xy k.1 ⟨q.s, k.2.1, k.2.2⟩
structure LdS (s : St) : Prop where
 fit : yF s
 four : Q5 s
 vo : ∀ i, i < 64 -> ∀ k ∈ (s.vs i).ks, k.vo = i
 kl : ∀ i, i < 64 -> ((s.vs i).ks.length : Int) = zx (s.vs i).bl
theorem LdS.zero {m : Int} (h : 0 <= m /\ m <= zH) : LdS { st0 with md := m } := by
 have hv := fun i (hi : i < 64) => (good0.d.fit (by omega)).vs i hi
 have hp := fun i (hi : i < 16) => (good0.d.fit (by omega)).pk i hi
 unfold zH at h
 exact ⟨⟨hp, hv, by simp only; omega⟩, fun i hi k hk => (by cases hk), fun i hi k hk => (by cases hk), fun i hi => by simp [st0, vol0, zx]⟩
theorem LdS.pick {q : RdS} (h : LdS q.s) : LdS (xE q).s := by
 refine ⟨⟨fun i hi => ?_, h.fit.vs, h.fit.md⟩, h.four, h.vo, h.kl⟩
 unfold xE
 simp only
 split
 ·have := Yb (zM q.bs q.e 15).2.1 (zM q.bs q.e 15).2.2
  unfold In64 at this
  omega
 ·exact h.fit.pk i hi
theorem ZO {bs : List UInt8} {e m : Nat} : (zM bs e (m : Int)).1 <= m := by
 have := yD (bs := bs) (e := e) (most := (m : Int)) (by omega)
 omega
theorem LdS.vol {q : RdS} (h : LdS q.s) : LdS (xy q).s := by
 have hi63 : (zM q.bs q.e 63).1 <= 63 := ZO (m := 63)
 obtain ⟨i, i1, i2, hi⟩ : ∃ x y z, zM q.bs q.e 63 = (x, y, z) := ⟨_, _, _, rfl⟩
 rw [hi] at hi63
 simp only at hi63
 obtain ⟨f1, f2, f3⟩ := rdVol_fit (vo := (i : Int)) (by omega) i1 i2
 have e : (xy q).s = setV q.s i (xH (i : Int) i1 i2).1 := by unfold xy; rw [hi]
 rw [e]
 refine ⟨⟨h.fit.pk, fun j hj => ?_, h.fit.md⟩, fun j hj k hk => ?_, fun j hj k hk => ?_, fun j hj => ?_⟩
 ·by_cases hji : j = i
  ·subst hji; rw [zE]; exact f1
  ·rw [zA hji]; exact h.fit.vs j hj
 ·by_cases hji : j = i
  ·subst hji; rw [zE] at hk; exact (f2 k hk).2
  ·rw [zA hji] at hk; exact h.four j hj k hk
 ·by_cases hji : j = i
  ·subst hji; rw [zE] at hk; exact (f2 k hk).1
  ·rw [zA hji] at hk; exact h.vo j hj k hk
 ·by_cases hji : j = i
  ·subst hji; rw [zE]; exact f3
  ·rw [zA hji]; exact h.kl j hj
theorem LdS.times {f : RdS -> RdS} (hf : ∀ q, LdS q.s -> LdS (f q).s) : ∀ (k : Nat) {q : RdS}, LdS q.s -> LdS (yQ f k q).s
 | 0, _, h => h
 | k + 1, _, h => hf _ (LdS.times hf k h)
theorem ZQ (bs : List UInt8) : LdS (Zt bs).s := by
 have hm := yD (bs := bs) (e := 0) (most := zH) (by unfold zH; omega)
 unfold Zt
 exact LdS.times (fun q => LdS.vol) _ (LdS.times (fun q => LdS.pick) _ (LdS.zero ⟨by omega, hm⟩))
end Go.Proofs.YteebkolccbcehaaGreat
end

section
set_option linter.all false
namespace Go.Proofs.YteebkolccbcehaaGreat
open Go.ChangeShapes Go.WideShapes Go.ChangeAt Go.RowKit
theorem bdStM_run (w : World) (m : Int) : (bdSt #[(2, .int .i64 m)]).run Tryz.prog w = .ok (.agg (zStL.toArray.setIfInBounds 464 (.int .i64 m))) w := by kernel_rfl
theorem stM_at {w : World} {g : Nat} {m : Int} (h : w.heap[g]? = some (.cells (zStL.toArray.setIfInBounds 464 (.int .i64 m)) 57 (0, 0))) : StAt w g { st0 with md := m } :=
 ⟨_, fun _ => Sl.nil, fun _ => [], h, by rw [Array.size_setIfInBounds]; exact YM, fun i hi => by rw [zJ (by omega)]; exact zSt_pk hi, fun i hi => by rw [zJ (by omega)]; exact xu (r := 0) hi (by omega), fun i hi => by rw [zJ (by omega)]; exact xu (r := 1) hi (by omega), fun i hi => by rw [zJ (by omega)]; exact xu (r := 2) hi (by omega), fun i hi => by rw [zJ (by omega)]; exact xu (r := 3) hi (by omega),
  fun i hi => by rw [zJ (by omega)]; exact xu (r := 4) hi (by omega), fun i hi => by rw [zJ (by omega)]; exact xu (r := 5) hi (by omega), fun i hi => by rw [zJ (by omega)]; exact xu (r := 6) hi (by omega), yH (by rw [YM]; omega), fun i hi => KsT.nil _, fun i hi => rfl⟩
theorem pick_put {w : World} {gs : Nat} {s : St} (h : StAt w gs s) {i : Nat} (hi : i < 16) (x : Int) : (∃ v, w.cell? ⟨gs, i, none⟩ = some v) /\ w.frozen? ⟨gs, i, none⟩ = false /\
  StAt (w.setCell ⟨gs, i, none⟩ (.int .i64 x)) gs { s with pk := fun j => if (j : Int) = (i : Int) then x else s.pk j } /\ Turned (fun k => k = gs) w (w.setCell ⟨gs, i, none⟩ (.int .i64 x)) := by
 obtain ⟨cs, K, X, h⟩ := h
 have ht : Turned (fun k => k = gs) w (w.setCell ⟨gs, i, none⟩ (.int .i64 x)) := (Turned.refl (fun k => k = gs) w).setCell (b := ⟨gs, i, none⟩) (fun _ => rfl) _
 exact ⟨⟨_, by rw [h.cell, h.pk i hi]⟩, zt h.row _, ⟨_, K, X, h.setPk hi (zG h.row _ _) fun q hq => (h.ks q hq).turned ht h.noCk.1 h.noCk.2⟩, ht⟩
theorem volS_put {w : World} {gs : Nat} {s : St} (h : StAt w gs s) {i : Nat} (hi : i < 64) {v : Vol} {S : Sl} {Y : List Ck} (hY : KsT w S Y) (hd : Y.map Ck.dat = v.ks) :
  ∃ w', (stVol (.pointer (some ⟨gs, 16 + i * 7, none⟩)) (.agg #[.int .i64 v.bl, .int .i64 v.p.re, .int .i64 v.p.we, .int .i64 v.p.li, .int .i64 v.p.bu, .int .i64 v.ver, .slice S.A S.n S.c])).run Tryz.prog w = .ok () w' /\ StAt w' gs (setV s i v) /\ Turned (fun k => k = gs) w w' := by
 obtain ⟨cs, K, X, h⟩ := h
 have hsz := h.size
 obtain ⟨w', h1, h2, h3⟩ := st_mid (T := 54) (o := 16 + i * 7) (new := #[.int .i64 v.bl, .int .i64 v.p.re, .int .i64 v.p.we, .int .i64 v.p.li, .int .i64 v.p.bu, .int .i64 v.ver, .slice S.A S.n S.c]) h.row (by show 16 + i * 7 + 7 <= _; omega) Z9 (by simp [Value.oneCell'])
 have hg : ∀ (j : Nat) (x : Value), [Value.int .i64 v.bl, .int .i64 v.p.re, .int .i64 v.p.we, .int .i64 v.p.li, .int .i64 v.p.bu, .int .i64 v.ver, .slice S.A S.n S.c][j]? = some x -> (putL cs (16 + i * 7) [Value.int .i64 v.bl, .int .i64 v.p.re, .int .i64 v.p.we, .int .i64 v.p.li, .int .i64 v.p.bu, .int .i64 v.ver, .slice S.A S.n S.c])[16 + i * 7 + j]? = some x := fun j x hx => xf _ _ _ _ _ hx (by show 16 + i * 7 + 7 <= _; omega)
 exact ⟨w', h1, ⟨_, _, _, h.setVol (v := v) (S := S) (Y := Y) hi h2 (by rw [Yq]; exact h.size) (fun j hj => Zr _ _ _ _ (by simpa using hj)) (hg 0 _ rfl) (hg 1 _ rfl) (hg 2 _ rfl) (hg 3 _ rfl) (hg 4 _ rfl) (hg 5 _ rfl) (hg 6 _ rfl) (hY.turned h3 h.noCk.1 h.noCk.2) hd (fun q hq _ => (h.ks q hq).turned h3 h.noCk.1 h.noCk.2)⟩, h3⟩
theorem StAt.reader {w w' : World} {gs gr e : Nat} {s : St} {bs : List UInt8} (h : StAt w gs s) (hr : IsR w gr bs e) (ht : Turned (fun k => k = gr) w w') : StAt w' gs s :=
 h.turned ht (fun e => by
  subst e
  obtain ⟨cs, K, X, h⟩ := h
  exact hr.noIntR (T := 57) (by decide) _ _ _ rfl h.row) ⟨hr.noIntR, hr.noIntR⟩
end Go.Proofs.YteebkolccbcehaaGreat
end

section
set_option linter.all false
namespace Go.Proofs.YteebkolccbcehaaGreat
open Go.ChangeShapes Go.WideShapes Go.ChangeAt Go.RowKit
def strB (bs : List UInt8) : ByteArray := ⟨bs.toArray⟩
theorem strB_eq (xs ys : List UInt8) : ((strB xs).toList == (strB ys).toList) = decide (xs = ys) := by
 rw [ByteArray.toList_eq, ByteArray.toList_eq]
 show (xs.toArray.toList == ys.toArray.toList) = _
 by_cases h : xs = ys
 ·subst h; simp
 ·rw [decide_eq_false h]
  apply beq_eq_false_iff_ne.2
  simpa using h
theorem Qc {P : Program} {w : World} {A : Option Addr} {n c : Nat} {bs : List UInt8} {src e dst : TypeId} (hs : P.underlying src = some (.slice e)) (he : P.underlying e = some (.int .u8)) (hd : P.underlying dst = some .string) (hn : bs.length = n) (h : Seen w A (zT bs)) :
  (convert src dst (.slice A n c)).run P w = .ok (.string (strB bs)) w := by
 by_cases h0 : n = 0
 ·subst h0
  obtain rfl : bs = [] := List.eq_nil_of_length_eq_zero hn
  rw [run_convert_bytes_string w src dst e _ 0 c hs he hd]
  cases A <;> simp [Conv.bytesToString, loadCells]
  all_goals rfl
 ·rcases h with h | ⟨g, o, rfl, hc⟩
  ·have := congrArg List.length h
   rw [xd, hn] at this
   simp at this
   omega
  ·have := run_convert_bytes_arg (P := P) w src e hs he g o n c (bs.map fun x => (x.toNat : Int)) (by simpa using hn) (fun i hi => by
    rw [hc i (XF (bs[i]'(by omega))) (by simp [zT, List.getElem?_eq_getElem (show i < bs.length by omega)])]
    simp [XF, List.getElem?_eq_getElem (show i < bs.length by omega)]) dst hd
   rw [this]
   have e : ∀ l : List UInt8, l.map ((fun n : Int => UInt8.ofNat n.toNat) ∘ fun x : UInt8 => (x.toNat : Int)) = l := fun l => by
    induction l with
    | nil => rfl
    | cons x xs ih => rw [List.map_cons, ih]; simp
   simp only [strOfNums, strB, List.map_map, e]
set_option maxRecDepth 100000 in
theorem Yn (A C : Option Addr) (n m c d : Nat) (xs ys : List UInt8) (w : World) (hn : xs.length = n) (hm : ys.length = m) (ha : Seen w A (zT xs)) (hb : Seen w C (zT ys)) :
  Calls Tryz.prog 25 #[.slice A n c, .slice C m d] w fun e w' => e = .returned (.bool (decide (xs = ys))) /\ w = w' := by
 have h1 := Qc (P := Tryz.prog) (c := c) Tryz.underlying23 Tryz.underlying5 Tryz.underlying9 hn ha
 have h2 := Qc (P := Tryz.prog) (c := d) Tryz.underlying23 Tryz.underlying5 Tryz.underlying9 hm hb
 have he := strB_eq xs ys
 obtain ⟨s1, hs1⟩ : ∃ s, strB xs = s := ⟨_, rfl⟩
 obtain ⟨s2, hs2⟩ : ∃ s, strB ys = s := ⟨_, rfl⟩
 rw [hs1] at h1 he
 rw [hs2] at h2 he
 obtain ⟨q, hq⟩ : ∃ q, decide (xs = ys) = q := ⟨_, rfl⟩
 rw [hq] at he ⊢
 clear ha hb hs1 hs2 hq hn hm
 go_enter Tryz.func25, Tryz.ntmps25
 go_wp2
 go_ret
 exact ⟨rfl, rfl⟩
end Go.Proofs.YteebkolccbcehaaGreat
end
