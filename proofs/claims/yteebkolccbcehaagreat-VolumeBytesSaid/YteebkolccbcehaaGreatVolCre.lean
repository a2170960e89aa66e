/-
  Contract of volume's create. Conditions: a state in memory, whose numbers are within bounds; a command of numbers that an int holds.
-/
import Derived.Test.YteebkolccbcehaaGreatVolFil
import Derived.Test.YteebkolccbcehaaGreatJG
set_option linter.all false
namespace Go.Proofs.YteebkolccbcehaaGreat
open Go.ChangeShapes Go.WideShapes Go.ChangeAt Go.RowKit
theorem NoT.more {w : World} {T : TypeId} {p : Nat -> Prop} (h : NoT w T p) : NoT w T (fun k => p k \/ w.heap.size <= k) := by
 intro k cs fr hk e
 rcases hk with hk | hk
 ·exact h k cs fr hk e
 ·rw [Array.getElem?_eq_none hk] at e
  cases e
theorem StC.oth {w W : World} {g : Nat} {cs : Array Value} {s : St} {K : Nat -> Sl} {X : Nat -> List Ck} (h : StC w g cs s K X) (ht : Turned (fun k => k = g \/ w.heap.size <= k) w W) {q : Nat} (hq : q < 64) : KsT W (K q) (X q) :=
 (h.ks q hq).turned ht h.noCk.1.more h.noCk.2.more
theorem own_nilM (w : World) (B : Nat) (T : TypeId) (z : Nat) : w.ownsRow B T z (.slice none 0 0) 0 [] := ⟨by simp, .inl ⟨rfl, rfl⟩⟩
theorem xT.pol {w W : World} {c : Cmd} (h : W.heap[w.heap.size]? = some (.cells #[.int .i64 c.k, .int .i64 c.a, .int .i64 c.b, .int .i64 c.c, .int .i64 c.p.re, .int .i64 c.p.we, .int .i64 c.p.li, .int .i64 c.p.bu] 39 (0, 0))) (hp : InP c.p) : Z8 W w.heap.size 4 c.p :=
 ⟨zc h 4, zc h 5, zc h 6, zc h 7, hp⟩
theorem fit_setV {s : St} (h : yF s) {i : Nat} {v : Vol} (hv : Xo v) : yF (setV s i v) := by
 refine ⟨h.pk, fun j hj => ?_, h.md⟩
 by_cases e : j = i
 ·subst e; rw [zE]; exact hv
 ·rw [zA e]; exact h.vs j hj
section
variable {P : Program} {ops : Array Oper} {Q : Exit -> Act -> World -> Prop} {md : Region.Mode} {S : World -> Prop} {t : Nat}
theorem zr {i n : Nat} {oi : Oper} {v : Value} {fuel : Nat} {listed : Array Bool} {a : Act} {w : World} (hi : ops[i]? = some oi)
  (hs : Region.noSelect ops = true) (hf : Region.free md ops listed i = true) (hr : (Region.ready md ops listed).contains i = true) (hw : YP md ops i n t = true) (hcl : Y7 md ops listed = true) (hit : (i == t) = false) (hl : listed.getD t true = false)
  (hQ : ∀ c a w, Q (.panic c) (a.put oi.dst v) w -> Q (.panic c) a w) (hy : YieldsIf P ops S oi v a) (hS : S w)
  (h : xx P md ops Q S t fuel (listed.setIfInBounds i true) (a.put oi.dst v) w) : xx P md ops Q S t (fuel + 1) listed a w :=
 YN hi (Region.noSelect_spec hs) hQ hw (by simpa using hit) fuel listed a w (Region.free_spec hi hf) (by simpa using hr) (QW hcl) hl hy hS h
end
attribute [local go_sem ↓] YR
attribute [local go_sem ↓] Qg
attribute [local go_sem ↓] yA
set_option maxRecDepth 100000 in
set_option maxHeartbeats 4000000 in
theorem VCreate_arg (g : Nat) (s : St) (c : Cmd) (w : World) (hc : yj c) (ha : (decide (0 <= c.a /\ c.a <= 63) && areB c.b && decide (1 <= c.c /\ c.c <= 3) && yc c.p) = false) :
  Calls Tryz.prog 41 #[.pointer (some ⟨g, 0, none⟩), cmdA c] w (yC g (s, 1) w) := by
 unfold cmdA
 obtain ⟨w1, hw1, hb1, hr1⟩ := zN w c
 have c1 : w1.cell? ⟨w.heap.size, 1, none⟩ = some (.int .i64 c.a) := zc hr1 1
 have c2 : w1.cell? ⟨w.heap.size, 2, none⟩ = some (.int .i64 c.b) := zc hr1 2
 have c3 : w1.cell? ⟨w.heap.size, 3, none⟩ = some (.int .i64 c.c) := zc hr1 3
 have hld := zZ (xT.pol hr1 hc.hp)
 have Hb1 := ihq hb1; have Hr1 := ihq hr1; have Hp := ihq hc.hp
 have KA := ihq (fun W => Zo c.a 0 63 W)
 have KC := ihq (fun W => Zo c.c 1 3 W)
 have KB := ihq (fun W => YK c.b W)
 have KR := ihq (Yw c.p w1)
 obtain ⟨ra, hra⟩ : ∃ r, decide (0 <= c.a /\ c.a <= 63) = r := ⟨_, rfl⟩
 obtain ⟨rb, hrb⟩ : ∃ r, areB c.b = r := ⟨_, rfl⟩
 obtain ⟨rc, hrc⟩ : ∃ r, decide (1 <= c.c /\ c.c <= 3) = r := ⟨_, rfl⟩
 obtain ⟨rr, hrr⟩ : ∃ r, yc c.p = r := ⟨_, rfl⟩
 rw [hra] at KA; rw [hrb] at KB; rw [hrc] at KC; rw [hrr] at KR
 rw [hra, hrb, hrc, hrr] at ha
 have Hra := ihq hra; have Hrb := ihq hrb; have Hrc := ihq hrc; have Hrr := ihq hrr
 clear hb1 hr1 hc hra hrb hrc hrr
 cases ra with
 | false =>
  clear ha
  go_enter Tryz.func41, Tryz.ntmps41
  go_wp2_with (first
   | (go_at_call 76; refine (KB.out _).mono ?_; rintro e w' ⟨rfl, rfl⟩)
   | (go_at_call 74; with_reducible refine (KA.out _).mono ?_; rintro e w' ⟨rfl, rfl⟩)
   | (go_at_call 74; refine (KC.out _).mono ?_; rintro e w' ⟨rfl, rfl⟩)
   | (go_at_call 77; refine KR.out.mono ?_; rintro e w2 ⟨rfl, hb2⟩; have Hb2 := ihq (Hb1.out.trans (hb2.mono Hb1.out.size)); clear hb2))
  go_ret
  exact yC.err Hb1.out (by decide)
 | true =>
  cases rb with
  | false =>
   clear ha
   go_enter Tryz.func41, Tryz.ntmps41
   go_wp2_with (first
    | (go_at_call 76; refine (KB.out _).mono ?_; rintro e w' ⟨rfl, rfl⟩)
    | (go_at_call 74; with_reducible refine (KA.out _).mono ?_; rintro e w' ⟨rfl, rfl⟩)
    | (go_at_call 74; refine (KC.out _).mono ?_; rintro e w' ⟨rfl, rfl⟩)
    | (go_at_call 77; refine KR.out.mono ?_; rintro e w2 ⟨rfl, hb2⟩; have Hb2 := ihq (Hb1.out.trans (hb2.mono Hb1.out.size)); clear hb2))
   go_ret
   exact yC.err Hb1.out (by decide)
  | true =>
   cases rc with
   | false =>
    clear ha
    go_enter Tryz.func41, Tryz.ntmps41
    go_wp2_with (first
     | (go_at_call 76; refine (KB.out _).mono ?_; rintro e w' ⟨rfl, rfl⟩)
     | (go_at_call 74; with_reducible refine (KA.out _).mono ?_; rintro e w' ⟨rfl, rfl⟩)
     | (go_at_call 74; refine (KC.out _).mono ?_; rintro e w' ⟨rfl, rfl⟩)
     | (go_at_call 77; refine KR.out.mono ?_; rintro e w2 ⟨rfl, hb2⟩; have Hb2 := ihq (Hb1.out.trans (hb2.mono Hb1.out.size)); clear hb2))
    go_ret
    exact yC.err Hb1.out (by decide)
   | true =>
    cases rr with
    | false =>
     clear ha
     go_enter Tryz.func41, Tryz.ntmps41
     go_wp2_with (first
      | (go_at_call 76; refine (KB.out _).mono ?_; rintro e w' ⟨rfl, rfl⟩)
      | (go_at_call 74; with_reducible refine (KA.out _).mono ?_; rintro e w' ⟨rfl, rfl⟩)
      | (go_at_call 74; refine (KC.out _).mono ?_; rintro e w' ⟨rfl, rfl⟩)
      | (go_at_call 77; refine KR.out.mono ?_; rintro e w2 ⟨rfl, hb2⟩; have Hb2 := ihq (Hb1.out.trans (hb2.mono Hb1.out.size)); clear hb2))
     go_ret
     exact yC.err Hb2.out (by decide)
    | true =>
     cases ha
set_option maxRecDepth 100000 in
set_option maxHeartbeats 8000000 in
theorem VCreate (g : Nat) (s : St) (c : Cmd) (w : World) (h : StAt w g s) (hf : yF s) (hc : yj c) (hk : c.k = 2) :
  Calls Tryz.prog 41 #[.pointer (some ⟨g, 0, none⟩), cmdA c] w (yC g (doS s c) w) := by
 have e0 : doS s c = if (!(decide (0 <= c.a /\ c.a <= 63) && areB c.b && decide (1 <= c.c /\ c.c <= 3) && yc c.p)) = true then (s, 1) else if (s.vs c.a.toNat).bl > 0 then (s, 8) else if ((zm s.pk).length : Int) < c.c then (s, 7) else (xz (setV s c.a.toNat ⟨c.b, c.p, 1, []⟩) c.a.toNat c.c.toNat, 0) := by unfold doS; rw [if_neg (by omega), if_pos hk]
 rw [e0]
 by_cases ht : (decide (0 <= c.a /\ c.a <= 63) && areB c.b && decide (1 <= c.c /\ c.c <= 3) && yc c.p) = false
 ·rw [if_pos (by rw [ht]; rfl)]
  exact VCreate_arg g s c w hc ht
 rw [Bool.not_eq_false] at ht
 rw [if_neg (by rw [ht]; decide)]
 simp only [Bool.and_eq_true] at ht
 obtain ⟨O, hO⟩ : ∃ O, (if (s.vs c.a.toNat).bl > 0 then (s, 8) else if ((zm s.pk).length : Int) < c.c then (s, 7) else (xz (setV s c.a.toNat ⟨c.b, c.p, 1, []⟩) c.a.toNat c.c.toNat, 0) : St × Int) = O := ⟨_, rfl⟩
 rw [hO]
 obtain ⟨⟨⟨hra, hrb⟩, hrc⟩, hrr⟩ := ht
 unfold cmdA
 obtain ⟨w1, hw1, hb1, hr1⟩ := zN w c
 have c1 : w1.cell? ⟨w.heap.size, 1, none⟩ = some (.int .i64 c.a) := zc hr1 1
 have c2 : w1.cell? ⟨w.heap.size, 2, none⟩ = some (.int .i64 c.b) := zc hr1 2
 have c3 : w1.cell? ⟨w.heap.size, 3, none⟩ = some (.int .i64 c.c) := zc hr1 3
 have hld := zZ (xT.pol hr1 hc.hp)
 have Hb1 := ihq hb1; have Hr1 := ihq hr1; have Hp := ihq hc.hp
 have KA := ihq (fun W => Zo c.a 0 63 W)
 have KC := ihq (fun W => Zo c.c 1 3 W)
 have KB := ihq (fun W => YK c.b W)
 have KR := ihq (Yw c.p w1)
 have H := ihq (h.below hb1); have H0 := ihq h
 have hgl := h.lt
 rw [hra] at KA; rw [hrb] at KB; rw [hrc] at KC; rw [hrr] at KR
 have Hra := ihq hra; have Hrb := ihq hrb; have Hrc := ihq hrc; have Hrr := ihq hrr; have Hf := ihq hf
 clear h hb1 hr1 hc e0 hk hra hrb hrc hrr hf
 obtain ⟨n, hn⟩ := Int.eq_ofNat_of_zero_le (of_decide_eq_true Hra.out).1
 obtain ⟨m, hm⟩ : ∃ m : Nat, c.c = (m : Int) := Int.eq_ofNat_of_zero_le (by have := (of_decide_eq_true Hrc.out).1; omega)
 have hn64 : n < 64 := by have := (of_decide_eq_true Hra.out).2; omega
 have hm1 : 1 <= m /\ m <= 3 := by have := of_decide_eq_true Hrc.out; omega
 have hbl : 1 <= c.b /\ c.b <= 512 := by have := Hrb.out; unfold areB at this; exact of_decide_eq_true this
 have en : c.a.toNat = n := by omega
 have em : c.c.toNat = m := by omega
 rw [en, em, hm] at hO
 have Hn := ihq hn; have Hm := ihq hm
 have i0 : (0 : Int) <= (n : Int) := by omega
 have i1 : (n : Int) < 64 := by omega
 have KS := ihq (fun V (hb : Below w1.heap.size w1 V) => Zk g s V (H.out.below hb))
 obtain ⟨N, hN⟩ : ∃ N, (zm s.pk).length = N := ⟨_, rfl⟩
 rw [hN] at hO
 rw [hN] at KS
 have HO := ihq hO
 clear hn hm en em hN hO
 go_enter Tryz.func41, Tryz.ntmps41
 go_upto_region 3 with (first
  | (go_at_call 76; refine (KB.out _).mono ?_; rintro e w' ⟨rfl, rfl⟩)
  | (go_at_call 74; with_reducible refine (KA.out _).mono ?_; rintro e w' ⟨rfl, rfl⟩)
  | (go_at_call 74; refine (KC.out _).mono ?_; rintro e w' ⟨rfl, rfl⟩)
  | (go_at_call 77; refine KR.out.mono ?_; rintro e w2 ⟨rfl, hb2⟩; have Hb2 := ihq hb2; clear hb2))
 have Hbb := ihq (Hb1.out.trans (Hb2.out.mono Hb1.out.size))
 clear c1 c2 c3 hld
 obtain ⟨cs, K, X, h2⟩ := H0.out.below Hbb.out
 have H2 := ihq h2
 have Hr2 := ihq (za Hr1.out Hb2.out)
 have d1 : w2.drew.cell? ⟨w.heap.size, 1, none⟩ = some (.int .i64 (n : Int)) := by rw [<- Hn.out]; exact zc (w := w2.drew) Hr2.out 1
 have d2 : w2.drew.cell? ⟨g, 16 + n * 7, none⟩ = some (.int .i64 (s.vs n).bl) := by rw [zc (w := w2.drew) h2.row]; exact h2.c0 n hn64
 obtain ⟨bl, hbl0⟩ : ∃ bl, (s.vs n).bl = bl := ⟨_, rfl⟩
 rw [hbl0] at d2
 have HO := HO.out
 rw [hbl0] at HO
 replace HO := ihq HO
 clear h2 hbl0
 refine zU (S := (fun W => W.cell? ⟨w.heap.size, 1, none⟩ = some (.int .i64 (n : Int)) /\ W.cell? ⟨g, 16 + n * 7, none⟩ = some (.int .i64 bl))) 9 (by kernel_rfl) ?_
 have hHeld := (And.intro d1 d2)
 refine zr (n := 9) (i := 0) (v := ?vr1) rfl (by kernel_rfl) (by kernel_rfl) (by kernel_rfl) (by kernel_rfl) (by kernel_rfl) (by rfl) (by rfl) (fun _ _ _ h => h) (Or.inl ⟨by rfl, ?hyr1⟩) hHeld ?restr1
 case hyr1 => (intro w' hS; obtain ⟨s1, s2⟩ := hS; (try simp only [iq4, iq5, iq6]); go_simp; try with_reducible rfl)
 try simp only [Act.put, iq1, iq2, iq3, iq4, iq5, iq6]
 refine zr (n := 9) (i := 1) (v := ?vr2) rfl (by kernel_rfl) (by kernel_rfl) (by kernel_rfl) (by kernel_rfl) (by kernel_rfl) (by rfl) (by rfl) (fun _ _ _ h => h) (Or.inl ⟨by rfl, ?hyr2⟩) hHeld ?restr2
 case hyr2 => (intro w' hS; obtain ⟨s1, s2⟩ := hS; (try simp only [iq4, iq5, iq6]); go_simp; try with_reducible rfl)
 try simp only [Act.put, iq1, iq2, iq3, iq4, iq5, iq6]
 refine zr (n := 9) (i := 2) (v := ?vr3) rfl (by kernel_rfl) (by kernel_rfl) (by kernel_rfl) (by kernel_rfl) (by kernel_rfl) (by rfl) (by rfl) (fun _ _ _ h => h) (Or.inl ⟨by rfl, ?hyr3⟩) hHeld ?restr3
 case hyr3 => (intro w' hS; obtain ⟨s1, s2⟩ := hS; (try simp only [iq4, iq5, iq6]); go_simp; try with_reducible rfl)
 try simp only [Act.put, iq1, iq2, iq3, iq4, iq5, iq6]
 refine zr (n := 9) (i := 3) (v := ?vr4) rfl (by kernel_rfl) (by kernel_rfl) (by kernel_rfl) (by kernel_rfl) (by kernel_rfl) (by rfl) (by rfl) (fun _ _ _ h => h) (Or.inl ⟨by rfl, ?hyr4⟩) hHeld ?restr4
 case hyr4 => (intro w' hS; obtain ⟨s1, s2⟩ := hS; (try simp only [iq4, iq5, iq6]); go_simp; try with_reducible rfl)
 try simp only [Act.put, iq1, iq2, iq3, iq4, iq5, iq6]
 refine zr (n := 9) (i := 4) (v := ?vr5) rfl (by kernel_rfl) (by kernel_rfl) (by kernel_rfl) (by kernel_rfl) (by kernel_rfl) (by rfl) (by rfl) (fun _ _ _ h => h) (Or.inl ⟨by rfl, ?hyr5⟩) hHeld ?restr5
 case hyr5 => (intro w' hS; obtain ⟨s1, s2⟩ := hS; (try simp only [iq4, iq5, iq6]); go_simp; try with_reducible rfl)
 try simp only [Act.put, iq1, iq2, iq3, iq4, iq5, iq6]
 refine zr (n := 9) (i := 5) (v := ?vr6) rfl (by kernel_rfl) (by kernel_rfl) (by kernel_rfl) (by kernel_rfl) (by kernel_rfl) (by rfl) (by rfl) (fun _ _ _ h => h) (Or.inl ⟨by rfl, ?hyr6⟩) hHeld ?restr6
 case hyr6 => (intro w' hS; obtain ⟨s1, s2⟩ := hS; (try simp only [iq4, iq5, iq6]); go_simp; try with_reducible rfl)
 try simp only [Act.put, iq1, iq2, iq3, iq4, iq5, iq6]
 refine zr (n := 9) (i := 6) (v := ?vr7) rfl (by kernel_rfl) (by kernel_rfl) (by kernel_rfl) (by kernel_rfl) (by kernel_rfl) (by rfl) (by rfl) (fun _ _ _ h => h) (Or.inl ⟨by rfl, ?hyr7⟩) hHeld ?restr7
 case hyr7 => (intro w' hS; obtain ⟨s1, s2⟩ := hS; (try simp only [iq4, iq5, iq6]); go_simp; try with_reducible rfl)
 try simp only [Act.put, iq1, iq2, iq3, iq4, iq5, iq6]
 refine zr (n := 9) (i := 7) (v := ?vr8) rfl (by kernel_rfl) (by kernel_rfl) (by kernel_rfl) (by kernel_rfl) (by kernel_rfl) (by rfl) (by rfl) (fun _ _ _ h => h) (Or.inl ⟨by rfl, ?hyr8⟩) hHeld ?restr8
 case hyr8 => (intro w' hS; obtain ⟨s1, s2⟩ := hS; (try simp only [iq4, iq5, iq6]); go_simp; try with_reducible rfl)
 try simp only [Act.put, iq1, iq2, iq3, iq4, iq5, iq6]
 refine zr (n := 9) (i := 8) (v := ?vr9) rfl (by kernel_rfl) (by kernel_rfl) (by kernel_rfl) (by kernel_rfl) (by kernel_rfl) (by rfl) (by rfl) (fun _ _ _ h => h) (Or.inl ⟨by rfl, ?hyr9⟩) hHeld ?restr9
 case hyr9 => (intro w' hS; obtain ⟨s1, s2⟩ := hS; (try simp only [iq4, iq5, iq6]); go_simp; try with_reducible rfl)
 try simp only [Act.put, iq1, iq2, iq3, iq4, iq5, iq6]
 refine zn (i := 9) (by kernel_rfl) rfl (fun K hK => ?_)
 (try simp only [iq4, iq5, iq6])
 go_simp
 refine hK.out _ _ (fun h => (by cases h)) ?_
 clear hK K
 try simp only [Act.put, iq1, iq2, iq3, iq4, iq5, iq6]
 refine zu (by kernel_rfl) ?_ _
 clear hHeld d1 d2
 by_cases hbp : bl > 0
 ·have hO := HO.out
  rw [if_pos hbp] at hO
  subst hO
  go_wp2
  go_ret
  exact yC.err (Hbb.out.trans ((Below.refl _ _).drew.mono Hbb.out.size)) (by decide)
 have hO := HO.out
 rw [if_neg hbp] at hO
 replace HO := ihq hO
 clear hO
 go_upto_region 5 with fail
 have d3 : w2.drew.drew.cell? ⟨w.heap.size, 3, none⟩ = some (.int .i64 (m : Int)) := by rw [<- Hm.out]; exact zc (w := w2.drew.drew) Hr2.out 3
 have hbD : Below w2.heap.size w2 w2.drew.drew := (Below.refl _ _).drew.drew
 have KS2 := ihq (KS.out w2.drew.drew (Hb2.out.trans (hbD.mono Hb2.out.size)))
 have Hr2D := ihq (za Hr2.out hbD)
 have HbD := ihq (Hbb.out.trans (hbD.mono Hbb.out.size))
 clear hbD
 refine zU (S := (fun W => W.cell? ⟨w.heap.size, 3, none⟩ = some (.int .i64 (m : Int)))) 6 (by kernel_rfl) ?_
 have hHeld := d3
 refine zr (n := 9) (i := 0) (v := ?vq1) rfl (by kernel_rfl) (by kernel_rfl) (by kernel_rfl) (by kernel_rfl) (by kernel_rfl) (by rfl) (by rfl) (fun _ _ _ h => h) (Or.inl ⟨by rfl, ?hyq1⟩) hHeld ?restq1
 case hyq1 => (intro w' hS; have s1 := hS; (try simp only [iq4, iq5, iq6]); go_simp; try with_reducible rfl)
 try simp only [Act.put, iq1, iq2, iq3, iq4, iq5, iq6]
 refine zr (n := 9) (i := 3) (v := ?vq2) rfl (by kernel_rfl) (by kernel_rfl) (by kernel_rfl) (by kernel_rfl) (by kernel_rfl) (by rfl) (by rfl) (fun _ _ _ h => h) (Or.inl ⟨by rfl, ?hyq2⟩) hHeld ?restq2
 case hyq2 => (intro w' hS; have s1 := hS; (try simp only [iq4, iq5, iq6]); go_simp; try with_reducible rfl)
 try simp only [Act.put, iq1, iq2, iq3, iq4, iq5, iq6]
 refine zr (n := 9) (i := 4) (v := ?vq3) rfl (by kernel_rfl) (by kernel_rfl) (by kernel_rfl) (by kernel_rfl) (by kernel_rfl) (by rfl) (by rfl) (fun _ _ _ h => h) (Or.inl ⟨by rfl, ?hyq3⟩) hHeld ?restq3
 case hyq3 => (intro w' hS; have s1 := hS; (try simp only [iq4, iq5, iq6]); go_simp; try with_reducible rfl)
 try simp only [Act.put, iq1, iq2, iq3, iq4, iq5, iq6]
 refine zn (i := 1) (by kernel_rfl) rfl (fun K hK => ?_)
 (try simp only [iq4, iq5, iq6])
 go_simp
 refine KS2.out.mono ?_
 rintro e w3 ⟨A3, q3, rfl, hown3, hb3⟩
 have d4 : w3.cell? ⟨w.heap.size, 3, none⟩ = some (.int .i64 (m : Int)) := by rw [<- Hm.out]; exact zc (za Hr2D.out hb3) 3
 have Hb3 := ihq hb3
 clear hown3 hb3
 refine hK.out _ _ (fun _ => d4) ?_
 clear hHeld
 have hHeld := d4
 clear hK K
 try simp only [Act.put, iq1, iq2, iq3, iq4, iq5, iq6]
 refine zn (i := 2) (by kernel_rfl) rfl (fun K hK => ?_)
 (try simp only [iq4, iq5, iq6])
 go_simp
 refine hK.out _ _ (fun _ => d4) ?_
 clear hHeld
 have hHeld := d4
 clear hK K
 try simp only [Act.put, iq1, iq2, iq3, iq4, iq5, iq6]
 refine zn (i := 5) (by kernel_rfl) rfl (fun K hK => ?_)
 (try simp only [iq4, iq5, iq6])
 go_simp
 refine hK.out _ _ (fun _ => d4) ?_
 clear hHeld
 have hHeld := d4
 clear hK K
 try simp only [Act.put, iq1, iq2, iq3, iq4, iq5, iq6]
 refine zn (i := 6) (by kernel_rfl) rfl (fun K hK => ?_)
 (try simp only [iq4, iq5, iq6])
 go_simp
 refine hK.out _ _ (fun h => (by cases h)) ?_
 clear hK K
 try simp only [Act.put, iq1, iq2, iq3, iq4, iq5, iq6]
 refine zu (by kernel_rfl) ?_ _
 clear hHeld d3 d4
 have Hb3' := ihq (HbD.out.trans (Hb3.out.mono HbD.out.size))
 by_cases hNm : (N : Int) < (m : Int)
 ·have hO := HO.out
  rw [if_pos hNm] at hO
  subst hO
  go_wp2
  go_ret
  exact yC.err Hb3'.out (by decide)
 have hO := HO.out
 rw [if_neg hNm] at hO
 replace HO := ihq hO
 clear hO
 go_upto_region 7 with fail
 have hr3 := za Hr2D.out Hb3.out
 obtain ⟨cs0, K0, X0, h0⟩ := H0.out
 have h3 := h0.below (w' := w3.drew) Hb3'.out.drew
 obtain ⟨w4, hst, ⟨cs4, hs4⟩, ht4⟩ := vol_put h3 hn64 c.b 1 c.p
 have e1 : w3.drew.cell? ⟨w.heap.size, 1, none⟩ = some (.int .i64 (n : Int)) := by rw [<- Hn.out]; exact zc (w := w3.drew) hr3 1
 have e2 : w3.drew.cell? ⟨w.heap.size, 2, none⟩ = some (.int .i64 c.b) := zc (w := w3.drew) hr3 2
 have e4 := zZ (w := w3.drew) (xT.pol (W := w3.drew) hr3 Hp.out)
 have hbd := fun W => QX W c.b c.p.re c.p.we c.p.li c.p.bu 1
 have Hr3 := ihq hr3; have H4 := ihq hs4; have Ht4 := ihq ht4; have Hh := ihq h0
 clear h0 h3 hs4 ht4 hr3
 refine zU (S := (fun W => W.cell? ⟨w.heap.size, 1, none⟩ = some (.int .i64 (n : Int)) /\ W.cell? ⟨w.heap.size, 2, none⟩ = some (.int .i64 c.b) /\ (QO (.pointer (some ⟨w.heap.size, 4, none⟩))).run Tryz.prog W = .ok (.agg #[.int .i64 c.p.re, .int .i64 c.p.we, .int .i64 c.p.li, .int .i64 c.p.bu]) W)) 11 (by kernel_rfl) ?_
 have hHeld := (And.intro e1 (And.intro e2 e4))
 refine zr (n := 9) (i := 0) (v := ?vp1) rfl (by kernel_rfl) (by kernel_rfl) (by kernel_rfl) (by kernel_rfl) (by kernel_rfl) (by rfl) (by rfl) (fun _ _ _ h => h) (Or.inl ⟨by rfl, ?hyp1⟩) hHeld ?restp1
 case hyp1 => (intro w' hS; obtain ⟨s1, s2, s3⟩ := hS; (try simp only [iq4, iq5, iq6]); go_simp; try with_reducible rfl)
 try simp only [Act.put, iq1, iq2, iq3, iq4, iq5, iq6]
 refine zr (n := 9) (i := 1) (v := ?vp2) rfl (by kernel_rfl) (by kernel_rfl) (by kernel_rfl) (by kernel_rfl) (by kernel_rfl) (by rfl) (by rfl) (fun _ _ _ h => h) (Or.inl ⟨by rfl, ?hyp2⟩) hHeld ?restp2
 case hyp2 => (intro w' hS; obtain ⟨s1, s2, s3⟩ := hS; (try simp only [iq4, iq5, iq6]); go_simp; try with_reducible rfl)
 try simp only [Act.put, iq1, iq2, iq3, iq4, iq5, iq6]
 refine zr (n := 9) (i := 2) (v := ?vp3) rfl (by kernel_rfl) (by kernel_rfl) (by kernel_rfl) (by kernel_rfl) (by kernel_rfl) (by rfl) (by rfl) (fun _ _ _ h => h) (Or.inl ⟨by rfl, ?hyp3⟩) hHeld ?restp3
 case hyp3 => (intro w' hS; obtain ⟨s1, s2, s3⟩ := hS; (try simp only [iq4, iq5, iq6]); go_simp; try with_reducible rfl)
 try simp only [Act.put, iq1, iq2, iq3, iq4, iq5, iq6]
 refine zr (n := 9) (i := 3) (v := ?vp4) rfl (by kernel_rfl) (by kernel_rfl) (by kernel_rfl) (by kernel_rfl) (by kernel_rfl) (by rfl) (by rfl) (fun _ _ _ h => h) (Or.inl ⟨by rfl, ?hyp4⟩) hHeld ?restp4
 case hyp4 => (intro w' hS; obtain ⟨s1, s2, s3⟩ := hS; (try simp only [iq4, iq5, iq6]); go_simp; try with_reducible rfl)
 try simp only [Act.put, iq1, iq2, iq3, iq4, iq5, iq6]
 refine zr (n := 9) (i := 4) (v := ?vp5) rfl (by kernel_rfl) (by kernel_rfl) (by kernel_rfl) (by kernel_rfl) (by kernel_rfl) (by rfl) (by rfl) (fun _ _ _ h => h) (Or.inl ⟨by rfl, ?hyp5⟩) hHeld ?restp5
 case hyp5 => (intro w' hS; obtain ⟨s1, s2, s3⟩ := hS; (try simp only [iq4, iq5, iq6]); go_simp; try with_reducible rfl)
 try simp only [Act.put, iq1, iq2, iq3, iq4, iq5, iq6]
 refine zr (n := 9) (i := 5) (v := ?vp6) rfl (by kernel_rfl) (by kernel_rfl) (by kernel_rfl) (by kernel_rfl) (by kernel_rfl) (by rfl) (by rfl) (fun _ _ _ h => h) (Or.inl ⟨by rfl, ?hyp6⟩) hHeld ?restp6
 case hyp6 => (intro w' hS; obtain ⟨s1, s2, s3⟩ := hS; (try simp only [iq4, iq5, iq6]); go_simp; try with_reducible rfl)
 try simp only [Act.put, iq1, iq2, iq3, iq4, iq5, iq6]
 refine zr (n := 9) (i := 6) (v := ?vp7) rfl (by kernel_rfl) (by kernel_rfl) (by kernel_rfl) (by kernel_rfl) (by kernel_rfl) (by rfl) (by rfl) (fun _ _ _ h => h) (Or.inl ⟨by rfl, ?hyp7⟩) hHeld ?restp7
 case hyp7 => (intro w' hS; obtain ⟨s1, s2, s3⟩ := hS; (try simp only [iq4, iq5, iq6]); go_simp; try with_reducible rfl)
 try simp only [Act.put, iq1, iq2, iq3, iq4, iq5, iq6]
 refine zr (n := 9) (i := 7) (v := ?vp8) rfl (by kernel_rfl) (by kernel_rfl) (by kernel_rfl) (by kernel_rfl) (by kernel_rfl) (by rfl) (by rfl) (fun _ _ _ h => h) (Or.inl ⟨by rfl, ?hyp8⟩) hHeld ?restp8
 case hyp8 => (intro w' hS; obtain ⟨s1, s2, s3⟩ := hS; (try simp only [iq4, iq5, iq6]); go_simp; try with_reducible rfl)
 try simp only [Act.put, iq1, iq2, iq3, iq4, iq5, iq6]
 refine zr (n := 9) (i := 8) (v := ?vp9) rfl (by kernel_rfl) (by kernel_rfl) (by kernel_rfl) (by kernel_rfl) (by kernel_rfl) (by rfl) (by rfl) (fun _ _ _ h => h) (Or.inl ⟨by rfl, ?hyp9⟩) hHeld ?restp9
 case hyp9 => (intro w' hS; obtain ⟨s1, s2, s3⟩ := hS; (try simp only [iq4, iq5, iq6]); go_simp; try with_reducible rfl)
 try simp only [Act.put, iq1, iq2, iq3, iq4, iq5, iq6]
 refine zr (n := 9) (i := 9) (v := ?vp10) rfl (by kernel_rfl) (by kernel_rfl) (by kernel_rfl) (by kernel_rfl) (by kernel_rfl) (by rfl) (by rfl) (fun _ _ _ h => h) (Or.inl ⟨by rfl, ?hyp10⟩) hHeld ?restp10
 case hyp10 => (intro w' hS; obtain ⟨s1, s2, s3⟩ := hS; (try simp only [iq4, iq5, iq6]); go_simp; try with_reducible rfl)
 try simp only [Act.put, iq1, iq2, iq3, iq4, iq5, iq6]
 refine zr (n := 9) (i := 10) (v := ?vp11) rfl (by kernel_rfl) (by kernel_rfl) (by kernel_rfl) (by kernel_rfl) (by kernel_rfl) (by rfl) (by rfl) (fun _ _ _ h => h) (Or.inl ⟨by rfl, ?hyp11⟩) hHeld ?restp11
 case hyp11 => (intro w' hS; obtain ⟨s1, s2, s3⟩ := hS; (try simp only [iq4, iq5, iq6]); go_simp; try with_reducible rfl)
 try simp only [Act.put, iq1, iq2, iq3, iq4, iq5, iq6]
 refine zn (i := 11) (by kernel_rfl) rfl (fun K hK => ?_)
 (try simp only [iq4, iq5, iq6])
 go_simp
 refine hK.out _ _ (fun h => (by cases h)) ?_
 clear hK K
 try simp only [Act.put, iq1, iq2, iq3, iq4, iq5, iq6]
 refine zu (by kernel_rfl) ?_ _
 clear hHeld e1 e2 e4 hst
 have hr4 : w4.heap[w.heap.size]? = some (.cells #[.int .i64 c.k, .int .i64 c.a, .int .i64 c.b, .int .i64 c.c, .int .i64 c.p.re, .int .i64 c.p.we, .int .i64 c.p.li, .int .i64 c.p.bu] 39 (0, 0)) := Ht4.out.heap (w := w3.drew) Hr3.out (by omega)
 have f1 : w4.cell? ⟨w.heap.size, 1, none⟩ = some (.int .i64 (n : Int)) := by rw [<- Hn.out]; exact zc hr4 1
 have f3 : w4.cell? ⟨w.heap.size, 3, none⟩ = some (.int .i64 (m : Int)) := by rw [<- Hm.out]; exact zc hr4 3
 have t04 : Turned (fun k => k = g) w w4 := (Turned.of_below (p := fun k => k = g) Hb3'.out.drew).trans Ht4.out (fun _ e => e) (fun _ _ e => e)
 have KF := Vfill w.heap.size g n m (setV s n ⟨c.b, c.p, 1, []⟩) cs4 (updN K0 n Sl.nil) (updN X0 n []) w4 H4.out (fit_setV Hf.out ⟨by show 0 <= c.b /\ c.b <= 512; omega, Hp.out, by show (0 : Int) <= 1 /\ (1 : Int) <= 35184372088832; omega, Nat.zero_le _, fun k hk => by cases hk⟩) hn64 (by omega) hgl t04.size
  (by rw [yN, yN]; exact own_nilM _ _ _ _) (fun q hq hqn V hV => by
   rw [yu hqn, yu hqn]
   exact Hh.out.oth ((t04.trans hV (fun _ e => .inl e) (fun _ _ e => e))) hq) (by rw [zE]; exact Nat.zero_le _)
 have KF' := ihq KF
 have T04 := ihq t04
 clear KF t04 hr4
 go_wp2_with (go_at_call 78; refine KF'.out.mono ?_; rintro e w5 ⟨rfl, hst5, ht5⟩; have Hst := ihq hst5; have Ht := ihq ht5; clear hst5 ht5)
 go_ret
 rw [<- HO.out]
 exact ⟨rfl, fun _ => Hst.out, T04.out.trans Ht.out (fun _ e => e) (fun k hk e => by
  rcases e with e | e
  ·exact e
  ·omega)⟩
end Go.Proofs.YteebkolccbcehaaGreat
