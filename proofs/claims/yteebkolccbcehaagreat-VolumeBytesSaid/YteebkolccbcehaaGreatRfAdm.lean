/-
  Contract of dotterelref18's Admits. Conditions: a state that can be read.
-/
import Derived.Test.YteebkolccbcehaaGreatJQ
import Derived.Test.YteebkolccbcehaaGreatJC
set_option linter.all false
namespace Go.Proofs.YteebkolccbcehaaGreat
open Go.ChangeShapes Go.WideShapes Go.ChangeAt Go.RowKit
def admN (r : RS) (n : Nat) : Bool := (List.range n).all fun i => !decide (0 < r.pk i) || yY (r.pk i) (Zs r (i : Int))
theorem admN_step (r : RS) (n : Nat) : admN r (n + 1) = (admN r n && (!decide (0 < r.pk n) || yY (r.pk n) (Zs r (n : Int)))) := by
 simp [admN, List.range_succ]
theorem admN_no {r : RS} {n : Nat} (hn : n < 16) (h : (!decide (0 < r.pk n) || yY (r.pk n) (Zs r (n : Int))) = false) : admR r = false := by
 unfold admR
 rw [List.all_eq_false]
 exact ⟨n, List.mem_range.2 hn, by simpa using h⟩
theorem polsR_len (r : RS) (sv : Int) : (Zs r sv).length <= r.vs.length := by
 unfold Zs
 rw [List.length_map]
 exact List.length_filter_le _ _
theorem polsR_in {w : World} {f : Rf} (h : RfOk w f) (sv : Int) : ∀ p ∈ Zs f.dat sv, InP p := by
 rw [<- pN_all f.dat sv rfl]
 exact pN_in h sv _
theorem bool_eqR {a b : Bool} (h : a = b) : Ending.returned (.bool a) = Ending.returned (.bool b) := by rw [h]
attribute [local irreducible] wpQuiet
attribute [local go_sem ↓] yX
set_option maxRecDepth 100000 in
set_option maxHeartbeats 4000000 in
theorem xw (f : Rf) (w : World) (h : RfOk w f) :
  Calls Tryz.prog 19 #[f.val] w fun e w' => e = .returned (.bool (admR f.dat)) /\ Below w.heap.size w w' := by
 unfold Rf.val
 obtain ⟨w1, hw1, hb1, hr⟩ := yb w f
 have Hpn := ihq h.pn
 have H := ihq (h.below hb1); have Hb := ihq hb1; have Hr := ihq hr
 have hlt0 : w.heap.size < w1.heap.size := (Array.getElem?_eq_some_iff.1 hr).1
 clear h hb1 hr
 go_enter Tryz.func19, Tryz.ntmps19
 go_wp2
 go_loopw [3] (fun iv wr => ∃ i : Nat, i <= 16 /\ iv = .int .i64 (i : Int) /\ admN f.dat i = true /\ Below w1.heap.size w1 wr) (fun iv _ => 16 - (intOf iv).toNat)
 case atStart => exact ⟨0, by omega, rfl, rfl, Below.refl _ _⟩
 case round =>
  obtain ⟨i, hin, rfl, hall, hb⟩ := hrel
  have Hall := ihq hall; have Hbw := ihq hb
  by_cases hi : i < 16
  ·have i0 : (0 : Int) <= (i : Int) := by omega
   have i1 : (i : Int) < 16 := by omega
   have hrow := (hb.block w.heap.size hlt0).trans Hr.out
   have hsz : w.heap.size < wr.heap.size := by have := hb.size; omega
   obtain ⟨gp, op, hA, c2⟩ := (H.out.below hb).pick hi
   obtain ⟨x, hx⟩ : ∃ x, f.pk i = x := ⟨_, rfl⟩
   rw [hx] at c2
   have hxin := H.out.pin i hi
   rw [hx] at hxin
   have hst := admN_step f.dat i
   rw [show f.dat.pk i = x from hx] at hst
   have Hst := ihq hst; have Hx := ihq hx; have HA := ihq hA
   have E0 := ihq (fun V (hv : Below wr.heap.size wr V) => show V.cell? ⟨w.heap.size, 0, none⟩ = some (.slice (some ⟨gp, op, none⟩) f.p.n f.p.c) from by rw [hv.cell hsz, zc hrow 0]; rw [HA.out]; rfl)
   have E1 := ihq (fun V (hv : Below wr.heap.size wr V) => show V.cell? ⟨gp, op + i, none⟩ = some (.int .i64 x) from by rw [hv.cell (block_lt_of_cell c2)]; exact c2)
   have E2 := ihq (fun V (hv : Below wr.heap.size wr V) => zR (f := f) ((hv.block w.heap.size hsz).trans hrow))
   have i2 : (i : Int) < (f.p.n : Int) := by have := Hpn.out; omega
   have hok := H.out.below hb
   have Hok := ihq hok
   clear hall hb hst hx hA hrow c2 hok
   by_cases hp : 0 < x
   ·obtain ⟨ps, hps⟩ : ∃ ps, Zs f.dat (i : Int) = ps := ⟨_, rfl⟩
    have KP := ihq (fun V (hv : Below wr.heap.size wr V) => Q4 f (i : Int) V (Hok.out.below hv))
    have hpl : ps.length <= 64 := by rw [<- hps]; exact Nat.le_trans (polsR_len _ _) (by show (f.X.map Vk.dat).length <= 64; rw [List.length_map]; exact Hok.out.vl)
    have hpi : ∀ p ∈ ps, InP p := by rw [<- hps]; exact polsR_in Hok.out _
    have KA := ihq (fun V A c (hv : V.ownsRow wr.heap.size 37 4 (.slice A ps.length c) ps.length (xD ps)) => RAdmits_any x A ps.length c ps V rfl (by unfold maxLen; omega) (YZ hv hpi) ⟨by omega, by omega⟩)
    rw [hps] at KP
    unfold Rf.val at KP
    have Hps := ihq hps
    obtain ⟨b, hbe⟩ : ∃ b, yY x ps = b := ⟨_, rfl⟩
    rw [hbe] at KA
    have Hbe := ihq hbe
    have Hpl := ihq hpl
    clear hps hpl hpi hbe
    have Hp := ihq hp
    cases b with
    | true =>
     go_upto_region 4 with fail
     go_region_held3 (fun V => V.cell? ⟨w.heap.size, 0, none⟩ = some (.slice (some ⟨gp, op, none⟩) f.p.n f.p.c) /\ V.cell? ⟨gp, op + i, none⟩ = some (.int .i64 x) /\ (ldRf (.pointer (some ⟨w.heap.size, 0, none⟩))).run Tryz.prog V = .ok (.agg #[.slice f.p.A f.p.n f.p.c, .slice f.v.A f.v.n f.v.c, .slice f.k.A f.k.n f.k.c, .int .i64 f.nx]) V)
      (first | exact ⟨E0.out _ (Below.refl _ _).drew, E1.out _ (Below.refl _ _).drew, E2.out _ (Below.refl _ _).drew⟩ | exact ⟨E0.out _ Hb2.out, E1.out _ Hb2.out, E2.out _ Hb2.out⟩ | exact ⟨E0.out _ Hb3.out, E1.out _ Hb3.out, E2.out _ Hb3.out⟩)
      (first
       | (go_at_call 56; (with_reducible refine (KA.out _ _ _ Ho2.out).mono ?_); rintro e w3 ⟨rfl, hb3⟩; have Hb3 := ihq (Hb2.out.trans (hb3.mono Hb2.out.size)); clear hb3)
       | (go_at_call 37; (with_reducible refine (KP.out _ (Below.refl _ _).drew).mono ?_); rintro e w2 ⟨A2, c2, rfl, hown2, hb2⟩; have Ho2 := ihq hown2; have Hb2 := ihq ((Below.refl wr.heap.size wr).drew.trans hb2); clear hown2 hb2))
     go_wp2
     go_roundw
     case rel => exact ⟨i + 1, by omega, by go_num, by rw [Hst.out, Hall.out, Hps.out, Hbe.out]; simp, Hbw.out.trans (Hb3.out.mono Hbw.out.size)⟩
     case measure => simp [intOf]; omega
    | false =>
     go_upto_region 4 with fail
     go_region_held3 (fun V => V.cell? ⟨w.heap.size, 0, none⟩ = some (.slice (some ⟨gp, op, none⟩) f.p.n f.p.c) /\ V.cell? ⟨gp, op + i, none⟩ = some (.int .i64 x) /\ (ldRf (.pointer (some ⟨w.heap.size, 0, none⟩))).run Tryz.prog V = .ok (.agg #[.slice f.p.A f.p.n f.p.c, .slice f.v.A f.v.n f.v.c, .slice f.k.A f.k.n f.k.c, .int .i64 f.nx]) V)
      (first | exact ⟨E0.out _ (Below.refl _ _).drew, E1.out _ (Below.refl _ _).drew, E2.out _ (Below.refl _ _).drew⟩ | exact ⟨E0.out _ Hb2.out, E1.out _ Hb2.out, E2.out _ Hb2.out⟩ | exact ⟨E0.out _ Hb3.out, E1.out _ Hb3.out, E2.out _ Hb3.out⟩)
      (first
       | (go_at_call 56; (with_reducible refine (KA.out _ _ _ Ho2.out).mono ?_); rintro e w3 ⟨rfl, hb3⟩; have Hb3 := ihq (Hb2.out.trans (hb3.mono Hb2.out.size)); clear hb3)
       | (go_at_call 37; (with_reducible refine (KP.out _ (Below.refl _ _).drew).mono ?_); rintro e w2 ⟨A2, c2, rfl, hown2, hb2⟩; have Ho2 := ihq hown2; have Hb2 := ihq ((Below.refl wr.heap.size wr).drew.trans hb2); clear hown2 hb2))
     go_wp2
     go_ret
     exact ⟨bool_eqR (admN_no hi (by rw [show f.dat.pk i = x from Hx.out, Hps.out, Hbe.out]; simpa using Hp.out)).symm, Hb.out.trans ((Hbw.out.trans (Hb3.out.mono Hbw.out.size)).mono Hb.out.size)⟩
   ·have e0 : ∀ p : zO wr, p.v.cell? ⟨w.heap.size, 0, none⟩ = some (.slice (some ⟨gp, op, none⟩) f.p.n f.p.c) := fun p => E0.out p.v p.h
    have e1 : ∀ p : zO wr, p.v.cell? ⟨gp, op + i, none⟩ = some (.int .i64 x) := fun p => E1.out p.v p.h
    have hpd : decide (0 < x) = false := decide_eq_false hp
    have Hp := ihq hp
    go_wp2
    refine zB (by kernel_rfl) (by kernel_rfl) ?_
    repeat (quiet_step (fail))
    refine wpQuiet_nil ?_
    rintro _ ⟨⟨w9, hb9⟩, rfl⟩
    have H9 := ihq hb9; clear hb9
    go_wp2
    go_roundw
    case rel => exact ⟨i + 1, by omega, by go_num, by rw [Hst.out, Hall.out]; simp [Hp.out], Hbw.out.trans (H9.out.mono Hbw.out.size)⟩
    case measure => simp [intOf]; omega
  ·obtain rfl : i = 16 := by omega
   go_wp2
   go_ret
   exact ⟨bool_eqR Hall.out.symm, Hb.out.trans (Hbw.out.mono Hb.out.size)⟩
end Go.Proofs.YteebkolccbcehaaGreat
