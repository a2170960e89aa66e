/-
  Contract of volume's resize. Conditions: a state in memory, whose numbers are within bounds, and whose volumes have a chunk at least; a command of numbers that an int holds.
-/
import Derived.Test.YteebkolccbcehaaGreatVolCre
set_option linter.all false
namespace Go.Proofs.YteebkolccbcehaaGreat
open Go.ChangeShapes Go.WideShapes Go.ChangeAt Go.RowKit
theorem KsT.take {w : World} {s : Sl} {X : List Ck} (h : KsT w s X) {m : Nat} (hm : m <= s.n) : KsT w ⟨s.A, m, s.c⟩ (X.take m) := by
 refine ⟨by rw [List.length_take, h.len]; exact Nat.min_eq_left hm, Nat.le_trans hm h.cap, h.max, ?_, fun k hk => h.ok k (List.mem_of_mem_take hk)⟩
 rw [<- cksV_take]
 exact h.see.take _
theorem StC.setBl {w w' : World} {g : Nat} {cs : Array Value} {s : St} {K : Nat -> Sl} {X : Nat -> List Ck} (h : StC w g cs s K X) {i : Nat} (hi : i < 64) {b : Int}
  (hr : w'.heap[g]? = some (.cells (cs.setIfInBounds (16 + i * 7) (.int .i64 b)) 57 (0, 0))) (ht : Turned (fun k => k = g) w w') :
  StC w' g (cs.setIfInBounds (16 + i * 7) (.int .i64 b)) (setV s i { s.vs i with bl := b }) (updN K i (K i)) (updN X i (X i)) := by
 refine h.setVol hi hr (by rw [Array.size_setIfInBounds]; exact h.size) (fun j hj => zJ (by omega)) (yH (by rw [h.size]; omega)) ?_ ?_ ?_ ?_ ?_ ?_ ((h.ks i hi).turned ht h.noCk.1 h.noCk.2) (h.dat i hi) (fun q hq _ => (h.ks q hq).turned ht h.noCk.1 h.noCk.2)
 ·rw [zJ (by omega)]; exact h.c1 i hi
 ·rw [zJ (by omega)]; exact h.c2 i hi
 ·rw [zJ (by omega)]; exact h.c3 i hi
 ·rw [zJ (by omega)]; exact h.c4 i hi
 ·rw [zJ (by omega)]; exact h.c5 i hi
 ·rw [zJ (by omega)]; exact h.c6 i hi
theorem Qz {α : Type} (F : Nat -> α) (i : Nat) : updN F i (F i) = F := by
 funext j
 unfold updN
 split
 ·rename_i e; rw [e]
 ·rfl
set_option maxRecDepth 100000 in
set_option maxHeartbeats 4000000 in
theorem VResize (g : Nat) (s : St) (c : Cmd) (w : World) (h : StAt w g s) (hf : yF s) (hne : ∀ i, i < 64 -> (s.vs i).bl ≠ 0 -> (s.vs i).ks ≠ []) (hk : c.k = 4) :
  Calls Tryz.prog 43 #[.pointer (some ⟨g, 0, none⟩), cmdA c] w (yC g (doS s c) w) := by
 have e0 : doS s c = if areB c.b = false then ((s, 1) : St × Int) else if yB s c.a = false then (s, 7) else
   (xz (setV s c.a.toNat { s.vs c.a.toNat with bl := c.b, ks := (s.vs c.a.toNat).ks.take (zx c.b).toNat }) c.a.toNat (match (s.vs c.a.toNat).ks.take (zx c.b).toNat with | k :: _ => k.ms.length | [] => 0), 0) := by
  unfold doS; rw [if_neg (by omega), if_neg (by omega), if_neg (by omega), if_pos hk]; rfl
 rw [e0]
 clear e0
 have KB := ihq (fun W => YK c.b W)
 by_cases hb : areB c.b = false
 ·rw [if_pos hb]
  rw [hb] at KB
  unfold cmdA
  obtain ⟨w1, hw1, hb1, hr1⟩ := zN w c
  have c2 : w1.cell? ⟨w.heap.size, 2, none⟩ = some (.int .i64 c.b) := zc hr1 2
  have Hb1 := ihq hb1
  clear h hf hne hb1 hr1 hb hk
  go_enter Tryz.func43, Tryz.ntmps43
  go_wp2_with (go_at_call 76; refine (KB.out _).mono ?_; rintro e w' ⟨rfl, rfl⟩)
  go_ret
  exact yC.err Hb1.out (by decide)
 rw [if_neg hb]
 rw [Bool.not_eq_false] at hb
 rw [hb] at KB
 by_cases hv : yB s c.a = false
 ·rw [if_pos hv]
  unfold cmdA
  obtain ⟨w1, hw1, hb1, hr1⟩ := zN w c
  have c1 : w1.cell? ⟨w.heap.size, 1, none⟩ = some (.int .i64 c.a) := zc hr1 1
  have c2 : w1.cell? ⟨w.heap.size, 2, none⟩ = some (.int .i64 c.b) := zc hr1 2
  have KV := ihq (ZZ g s c.a w1 (h.below hb1) hv)
  have Hb1 := ihq hb1
  clear h hf hne hb1 hr1 hb hk hv
  go_enter Tryz.func43, Tryz.ntmps43
  go_wp2_with (first
   | (go_at_call 76; refine (KB.out _).mono ?_; rintro e w' ⟨rfl, rfl⟩)
   | (go_at_call 38; refine KV.out.mono ?_; rintro e w3 ⟨rfl, rfl⟩))
  go_ret
  exact yC.err Hb1.out (by decide)
 rw [if_neg hv]
 rw [Bool.not_eq_false] at hv
 obtain ⟨n, hn, hn64, hn0⟩ := Zb hv
 have et : c.a.toNat = n := by omega
 rw [hn] at hv
 have hbl : 1 <= c.b /\ c.b <= 512 := by unfold areB at hb; exact of_decide_eq_true hb
 obtain ⟨q, hq⟩ : ∃ q : Nat, zx c.b = (q : Int) := Int.eq_ofNat_of_zero_le (by unfold zx; omega)
 have hq1 : 1 <= q /\ q <= 64 := by unfold zx at hq; omega
 rw [et, hq, Int.toNat_natCast]
 obtain ⟨O, hO⟩ : ∃ O, ((xz (setV s n { s.vs n with bl := c.b, ks := (s.vs n).ks.take q }) n (match (s.vs n).ks.take q with | k :: _ => k.ms.length | [] => 0), 0) : St × Int) = O := ⟨_, rfl⟩
 rw [hO]
 unfold cmdA
 obtain ⟨w1, hw1, hb1, hr1⟩ := zN w c
 have c1 : w1.cell? ⟨w.heap.size, 1, none⟩ = some (.int .i64 c.a) := zc hr1 1
 have c2 : w1.cell? ⟨w.heap.size, 2, none⟩ = some (.int .i64 c.b) := zc hr1 2
 have KV0 := Zj g s n w1 (h.below hb1) hv
 rw [<- hn] at KV0
 have KV := ihq KV0
 have hgl := h.lt
 obtain ⟨cs, K, X, h⟩ := h
 have hXl := (h.ks n hn64).len
 have hXd := h.dat n hn64
 have hN0 : 0 < (X n).length := by
  have := hne n hn64 hn0
  rw [<- hXd] at this
  cases hx : X n with
  | nil => rw [hx] at this; exact absurd rfl this
  | cons a r => simp
 have hN64 : (X n).length <= 64 := by
  have := (hf.vs n hn64).kl
  rwa [<- hXd, List.length_map] at this
 obtain ⟨x0, hx0⟩ : ∃ x0, (X n)[0]? = some x0 := ⟨_, List.getElem?_eq_getElem hN0⟩
 have h1 := h.below hb1
 obtain ⟨w2, hw2⟩ : ∃ w2, w1.setCell ⟨g, 16 + n * 7, none⟩ (.int .i64 c.b) = w2 := ⟨_, rfl⟩
 have v0 : w1.cell? ⟨g, 16 + n * 7, none⟩ = some (.int .i64 (s.vs n).bl) := by rw [zc h1.row]; exact h1.c0 n hn64
 have z0 : w1.frozen? ⟨g, 16 + n * 7, none⟩ = false := zt h1.row _
 have t2 : Turned (fun k => k = g) w1 w2 := by rw [<- hw2]; exact (Turned.refl (fun k => k = g) w1).setCell (b := ⟨g, 16 + n * 7, none⟩) (fun _ => rfl) _
 have h2 := h1.setBl (w' := w2) hn64 (b := c.b) (by rw [<- hw2]; exact zG h1.row _ _) t2
 rw [Qz, Qz] at h2
 have hr2 := t2.heap hr1 (by omega)
 have t02 : Turned (fun k => k = g) w w2 := (Turned.of_below (p := fun k => k = g) hb1).trans t2 (fun _ e => e) (fun _ _ e => e)
 obtain ⟨S, hS⟩ : ∃ S, K n = S := ⟨_, rfl⟩
 obtain ⟨A, N, C⟩ := S
 have hkn := h2.ks n hn64
 rw [hS] at hkn
 have hNC := hkn.cap
 simp only at hNC
 have hXN : (X n).length = N := hkn.len
 obtain ⟨M, hM⟩ : ∃ M, min N q = M := ⟨_, rfl⟩
 have hmin : min (N : Int) (q : Int) = (M : Int) := by omega
 have m0 : (0 : Int) <= (M : Int) := by omega
 have mc : (M : Int) <= (C : Int) := by omega
 have d6 : w2.drew.cell? ⟨g, 16 + n * 7 + 6, none⟩ = some (.slice A N C) := by rw [zc (w := w2.drew) h2.row]; have := h2.c6 n hn64; rw [hS] at this; exact this
 have d2 : w2.drew.cell? ⟨w.heap.size, 2, none⟩ = some (.int .i64 c.b) := zc (w := w2.drew) hr2 2
 have z6 : w2.frozen? ⟨g, 16 + n * 7 + 6, none⟩ = false := zt h2.row _
 have KN := ihq (fun W => Vcount c.b W (by omega) hbl.2)
 rw [hq] at KN
 have KK0 := VCloneK ⟨A, M, C⟩ ((X n).take M) w2.drew ((hkn.take (m := M) (by show M <= N; omega)).below (Below.refl _ _).drew) (by rw [List.length_take]; omega) (by rw [List.length_take]; omega)
 unfold Xr at KK0
 have hMl : ((X n).take M).length = M := by rw [List.length_take]; omega
 rw [hMl] at KK0
 have KK := ihq KK0
 have H := ihq h; have H2 := ihq h2; have Hr2 := ihq hr2; have T02 := ihq t02; have Hf := ihq hf; have Hn := ihq hn; have Hx0 := ihq hx0; have HXN := ihq hXN; have HM := ihq hM; have HO := ihq hO; have Hq := ihq hq; have HS := ihq hS; have HXd := ihq hXd; have T2 := ihq t2
 have Hc6 := ihq (show cs.size = 465 from h.size)
 clear h h1 h2 hr1 hr2 hb1 t2 t02 hf hn hx0 hXN hM hO hq hkn KK0 hS hXd hXl hN0 hN64 hMl hne hn0 hv hk hb et KV0
 go_enter Tryz.func43, Tryz.ntmps43
 go_upto_region 7 with (first
  | (go_at_call 76; refine (KB.out _).mono ?_; rintro e w' ⟨rfl, rfl⟩)
  | (go_at_call 38; refine KV.out.mono ?_; rintro e w3 ⟨rfl, rfl⟩))
 clear hw1 c1 c2 v0 z0
 refine zU (S := (fun W => W.cell? ⟨g, 16 + n * 7 + 6, none⟩ = some (.slice A N C) /\ W.cell? ⟨w.heap.size, 2, none⟩ = some (.int .i64 c.b))) 18 (by kernel_rfl) ?_
 have hHeld := (And.intro d6 d2)
 refine zr (n := 9) (i := 0) (v := ?vr1) rfl (by kernel_rfl) (by kernel_rfl) (by kernel_rfl) (by kernel_rfl) (by kernel_rfl) (by rfl) (by rfl) (fun _ _ _ h => h) (Or.inl ⟨by rfl, ?hyr1⟩) hHeld ?restr1
 case hyr1 => (intro w' hS; obtain ⟨s1, s2⟩ := hS; (try simp only [iq4, iq5, iq6]); go_simp; try with_reducible rfl)
 try simp only [Act.put, iq1, iq2, iq3, iq4, iq5, iq6]
 refine zr (n := 9) (i := 1) (v := ?vr2) rfl (by kernel_rfl) (by kernel_rfl) (by kernel_rfl) (by kernel_rfl) (by kernel_rfl) (by rfl) (by rfl) (fun _ _ _ h => h) (Or.inl ⟨by rfl, ?hyr2⟩) hHeld ?restr2
 case hyr2 => (intro w' hS; obtain ⟨s1, s2⟩ := hS; (try simp only [iq4, iq5, iq6]); go_simp; try with_reducible rfl)
 try simp only [Act.put, iq1, iq2, iq3, iq4, iq5, iq6]
 refine zr (n := 9) (i := 2) (v := ?vr3) rfl (by kernel_rfl) (by kernel_rfl) (by kernel_rfl) (by kernel_rfl) (by kernel_rfl) (by rfl) (by rfl) (fun _ _ _ h => h) (Or.inl ⟨by rfl, ?hyr3⟩) hHeld ?restr3
 case hyr3 => (intro w' hS; obtain ⟨s1, s2⟩ := hS; (try simp only [iq4, iq5, iq6]); go_simp; try with_reducible rfl)
 try simp only [Act.put, iq1, iq2, iq3, iq4, iq5, iq6]
 refine zr (n := 9) (i := 3) (v := ?vr4) rfl (by kernel_rfl) (by kernel_rfl) (by kernel_rfl) (by kernel_rfl) (by kernel_rfl) (by rfl) (by rfl) (fun _ _ _ h => h) (Or.inl ⟨by rfl, ?hyr4⟩) hHeld ?restr4
 case hyr4 => (intro w' hS; obtain ⟨s1, s2⟩ := hS; (try simp only [iq4, iq5, iq6]); go_simp; try with_reducible rfl)
 try simp only [Act.put, iq1, iq2, iq3, iq4, iq5, iq6]
 refine zr (n := 9) (i := 4) (v := ?vr5) rfl (by kernel_rfl) (by kernel_rfl) (by kernel_rfl) (by kernel_rfl) (by kernel_rfl) (by rfl) (by rfl) (fun _ _ _ h => h) (Or.inl ⟨by rfl, ?hyr5⟩) hHeld ?restr5
 case hyr5 => (intro w' hS; obtain ⟨s1, s2⟩ := hS; (try simp only [iq4, iq5, iq6]); go_simp; try with_reducible rfl)
 try simp only [Act.put, iq1, iq2, iq3, iq4, iq5, iq6]
 refine zr (n := 9) (i := 5) (v := ?vr6) rfl (by kernel_rfl) (by kernel_rfl) (by kernel_rfl) (by kernel_rfl) (by kernel_rfl) (by rfl) (by rfl) (fun _ _ _ h => h) (Or.inl ⟨by rfl, ?hyr6⟩) hHeld ?restr6
 case hyr6 => (intro w' hS; obtain ⟨s1, s2⟩ := hS; (try simp only [iq4, iq5, iq6]); go_simp; try with_reducible rfl)
 try simp only [Act.put, iq1, iq2, iq3, iq4, iq5, iq6]
 refine zr (n := 9) (i := 6) (v := ?vr7) rfl (by kernel_rfl) (by kernel_rfl) (by kernel_rfl) (by kernel_rfl) (by kernel_rfl) (by rfl) (by rfl) (fun _ _ _ h => h) (Or.inl ⟨by rfl, ?hyr7⟩) hHeld ?restr7
 case hyr7 => (intro w' hS; obtain ⟨s1, s2⟩ := hS; (try simp only [iq4, iq5, iq6]); go_simp; try with_reducible rfl)
 try simp only [Act.put, iq1, iq2, iq3, iq4, iq5, iq6]
 refine zr (n := 9) (i := 7) (v := ?vr8) rfl (by kernel_rfl) (by kernel_rfl) (by kernel_rfl) (by kernel_rfl) (by kernel_rfl) (by rfl) (by rfl) (fun _ _ _ h => h) (Or.inl ⟨by rfl, ?hyr8⟩) hHeld ?restr8
 case hyr8 => (intro w' hS; obtain ⟨s1, s2⟩ := hS; (try simp only [iq4, iq5, iq6]); go_simp; try with_reducible rfl)
 try simp only [Act.put, iq1, iq2, iq3, iq4, iq5, iq6]
 refine zr (n := 9) (i := 8) (v := ?vr9) rfl (by kernel_rfl) (by kernel_rfl) (by kernel_rfl) (by kernel_rfl) (by kernel_rfl) (by rfl) (by rfl) (fun _ _ _ h => h) (Or.inl ⟨by rfl, ?hyr9⟩) hHeld ?restr9
 case hyr9 => (intro w' hS; obtain ⟨s1, s2⟩ := hS; (try simp only [iq4, iq5, iq6]); go_simp; try with_reducible rfl)
 try simp only [Act.put, iq1, iq2, iq3, iq4, iq5, iq6]
 refine zr (n := 9) (i := 9) (v := ?vr10) rfl (by kernel_rfl) (by kernel_rfl) (by kernel_rfl) (by kernel_rfl) (by kernel_rfl) (by rfl) (by rfl) (fun _ _ _ h => h) (Or.inl ⟨by rfl, ?hyr10⟩) hHeld ?restr10
 case hyr10 => (intro w' hS; obtain ⟨s1, s2⟩ := hS; (try simp only [iq4, iq5, iq6]); go_simp; try with_reducible rfl)
 try simp only [Act.put, iq1, iq2, iq3, iq4, iq5, iq6]
 refine zr (n := 9) (i := 10) (v := ?vr11) rfl (by kernel_rfl) (by kernel_rfl) (by kernel_rfl) (by kernel_rfl) (by kernel_rfl) (by rfl) (by rfl) (fun _ _ _ h => h) (Or.inl ⟨by rfl, ?hyr11⟩) hHeld ?restr11
 case hyr11 => (intro w' hS; obtain ⟨s1, s2⟩ := hS; (try simp only [iq4, iq5, iq6]); go_simp; try with_reducible rfl)
 try simp only [Act.put, iq1, iq2, iq3, iq4, iq5, iq6]
 refine zr (n := 9) (i := 11) (v := ?vr12) rfl (by kernel_rfl) (by kernel_rfl) (by kernel_rfl) (by kernel_rfl) (by kernel_rfl) (by rfl) (by rfl) (fun _ _ _ h => h) (Or.inl ⟨by rfl, ?hyr12⟩) hHeld ?restr12
 case hyr12 => (intro w' hS; obtain ⟨s1, s2⟩ := hS; (try simp only [iq4, iq5, iq6]); go_simp; try with_reducible rfl)
 try simp only [Act.put, iq1, iq2, iq3, iq4, iq5, iq6]
 refine zn (i := 12) (by kernel_rfl) rfl (fun K hK => ?_)
 (try simp only [iq4, iq5, iq6])
 go_simp
 refine (KN.out _).mono ?_
 rintro e w' ⟨rfl, rfl⟩
 refine hK.out _ _ (fun _ => (And.intro d6 d2)) ?_
 clear hHeld
 have hHeld := (And.intro d6 d2)
 clear hK K
 try simp only [Act.put, iq1, iq2, iq3, iq4, iq5, iq6]
 refine zn (i := 13) (by kernel_rfl) rfl (fun K hK => ?_)
 (try simp only [iq4, iq5, iq6])
 go_simp
 refine hK.out _ _ (fun _ => (And.intro d6 d2)) ?_
 clear hHeld
 have hHeld := (And.intro d6 d2)
 clear hK K
 try simp only [Act.put, iq1, iq2, iq3, iq4, iq5, iq6]
 refine zn (i := 14) (by kernel_rfl) rfl (fun K hK => ?_)
 (try simp only [iq4, iq5, iq6])
 go_simp
 refine hK.out _ _ (fun _ => (And.intro d6 d2)) ?_
 clear hHeld
 have hHeld := (And.intro d6 d2)
 clear hK K
 try simp only [Act.put, iq1, iq2, iq3, iq4, iq5, iq6]
 refine zn (i := 15) (by kernel_rfl) rfl (fun K hK => ?_)
 (try simp only [iq4, iq5, iq6])
 go_simp
 refine KK.out.mono ?_
 rintro e w3 ⟨gr, cr, rfl, hown3, hb3⟩
 have h3 := (H2.out.below (w' := w2.drew) (Below.refl _ _).drew).below hb3
 have e6 : w3.cell? ⟨g, 16 + n * 7 + 6, none⟩ = some (.slice A N C) := by rw [zc h3.row]; have := h3.c6 n hn64; rw [HS.out] at this; exact this
 have e2 : w3.cell? ⟨w.heap.size, 2, none⟩ = some (.int .i64 c.b) := zc (za (w := w2.drew) Hr2.out hb3) 2
 have z63 : w3.frozen? ⟨g, 16 + n * 7 + 6, none⟩ = false := zt h3.row _
 have Hown3 := ihq hown3
 have Hb3 := ihq hb3
 have H3 := ihq h3
 clear hown3 hb3 h3
 refine hK.out _ _ (fun _ => (And.intro e6 e2)) ?_
 clear hHeld
 have hHeld := (And.intro e6 e2)
 clear hK K
 try simp only [Act.put, iq1, iq2, iq3, iq4, iq5, iq6]
 refine zr (n := 9) (i := 16) (v := ?vr13) rfl (by kernel_rfl) (by kernel_rfl) (by kernel_rfl) (by kernel_rfl) (by kernel_rfl) (by rfl) (by rfl) (fun _ _ _ h => h) (Or.inl ⟨by rfl, ?hyr13⟩) hHeld ?restr13
 case hyr13 => (intro w' hS; obtain ⟨s1, s2⟩ := hS; (try simp only [iq4, iq5, iq6]); go_simp; try with_reducible rfl)
 try simp only [Act.put, iq1, iq2, iq3, iq4, iq5, iq6]
 refine zr (n := 9) (i := 17) (v := ?vr14) rfl (by kernel_rfl) (by kernel_rfl) (by kernel_rfl) (by kernel_rfl) (by kernel_rfl) (by rfl) (by rfl) (fun _ _ _ h => h) (Or.inl ⟨by rfl, ?hyr14⟩) hHeld ?restr14
 case hyr14 => (intro w' hS; obtain ⟨s1, s2⟩ := hS; (try simp only [iq4, iq5, iq6]); go_simp; try with_reducible rfl)
 try simp only [Act.put, iq1, iq2, iq3, iq4, iq5, iq6]
 refine zn (i := 18) (by kernel_rfl) rfl (fun K hK => ?_)
 (try simp only [iq4, iq5, iq6])
 go_simp
 refine hK.out _ _ (fun h => (by cases h)) ?_
 clear hK K
 try simp only [Act.put, iq1, iq2, iq3, iq4, iq5, iq6]
 refine zu (by kernel_rfl) ?_ _
 clear hHeld d6 d2 e6 e2 z6
 obtain ⟨w4, hw4⟩ : ∃ w4, w3.setCell ⟨g, 16 + n * 7 + 6, none⟩ (.slice (some ⟨gr, 0, none⟩) M cr) = w4 := ⟨_, rfl⟩
 rw [hw4]
 have t34 : Turned (fun k => k = g) w3 w4 := by rw [<- hw4]; exact (Turned.refl (fun k => k = g) w3).setCell (b := ⟨g, 16 + n * 7 + 6, none⟩) (fun _ => rfl) _
 have hgr := (Hown3.out.lt gr rfl).1
 have hgw2 : g < w2.drew.heap.size := H2.out.lt
 have own4 := ze t34 Hown3.out (fun k hk e => by injection hk with hk; simp only at hk; omega)
 have ks4 : KsT w4 ⟨some ⟨gr, 0, none⟩, M, cr⟩ ((X n).take M) := KsT.own own4 (fun k hk => ((H3.out.ks n hn64).ok k (List.mem_of_mem_take hk)).turned t34 H3.out.noCk.1)
 have h4 := H3.out.setKs (w' := w4) hn64 (S := ⟨some ⟨gr, 0, none⟩, M, cr⟩) (Y := (X n).take M) (by rw [<- hw4]; exact zG H3.out.row _ _) ks4 (fun k hk _ => (H3.out.ks k hk).turned t34 H3.out.noCk.1 H3.out.noCk.2)
 have t24 : Turned (fun k => k = g) w2 w4 := ((Turned.of_below (p := fun k => k = g) (Below.refl _ _).drew).trans (Turned.of_below (p := fun k => k = g) Hb3.out) (r := fun k => k = g) (fun _ e => e) (fun _ _ e => e)).trans t34 (fun _ e => e) (fun _ _ e => e)
 have t04 : Turned (fun k => k = g) w w4 := T02.out.trans t24 (fun _ e => e) (fun _ _ e => e)
 have hr4 := t24.heap Hr2.out (by omega)
 have hx4 : ((X n).take M)[0]? = some x0 := by rw [List.getElem?_take_of_lt (by have := HM.out; have := HXN.out; have := (List.getElem?_eq_some_iff.1 Hx0.out).1; omega)]; exact Hx0.out
 have f1 : w4.drew.cell? ⟨w.heap.size, 1, none⟩ = some (.int .i64 (n : Int)) := by rw [<- Hn.out]; exact zc (w := w4.drew) hr4 1
 have f6 : w4.drew.cell? ⟨g, 16 + n * 7 + 6, none⟩ = some (.slice (some ⟨gr, 0, none⟩) M cr) := by rw [zc (w := w4.drew) h4.row, yH (by rw [Array.size_setIfInBounds, Hc6.out]; omega)]
 have f3 : w4.drew.cell? ⟨gr, 3, none⟩ = some (.slice x0.m.A x0.m.n x0.m.c) := by
  obtain ⟨_, _, _, e3, _⟩ := Qd hx4
  rcases ye own4 with he | ⟨ga, oa, hA, hc⟩
  ·rw [he] at e3; cases e3
  ·injection hA with hA
   injection hA with h1 h2
   subst h1; subst h2
   exact hc _ _ e3
 have M1 : (0 : Int) < (M : Int) := by have := HM.out; have := HXN.out; have := (List.getElem?_eq_some_iff.1 Hx0.out).1; omega
 have M1n : 0 < M := by omega
 have hxo : x0 ∈ X n := List.mem_of_getElem? Hx0.out
 have hmn : x0.ms.length = x0.m.n := ((H.out.ks n hn64).ok x0 hxo).m.len
 have hfitx : Z4 x0.dat := (Hf.out.vs n hn64).ks _ (by rw [<- HXd.out]; exact List.mem_map_of_mem hxo)
 have e3 : setV (setV s n { s.vs n with bl := c.b }) n { (setV s n { s.vs n with bl := c.b }).vs n with ks := ((X n).take M).map Ck.dat } = setV s n { s.vs n with bl := c.b, ks := (s.vs n).ks.take q } := by
  rw [QE, zE]
  have : ((X n).take M).map Ck.dat = (s.vs n).ks.take q := by
   rw [<- HXd.out, List.map_take, <- HM.out, <- HXN.out, <- List.length_map (f := Ck.dat), List.take_eq_take_iff]
   omega
  rw [this]
 rw [e3] at h4
 have hb4 : w.heap.size <= w4.drew.heap.size := t04.size
 have KF := Vfill w.heap.size g n x0.m.n _ _ _ _ w4.drew (h4.below (Below.refl _ _).drew) (fit_setV Hf.out ⟨by show 0 <= c.b /\ c.b <= 512; omega, (Hf.out.vs n hn64).p, (Hf.out.vs n hn64).ver, by
   show ((s.vs n).ks.take q).length <= 64
   rw [List.length_take]; omega, fun k hk => (Hf.out.vs n hn64).ks k (List.mem_of_mem_take hk)⟩) hn64 (by rw [<- hmn]; exact hfitx.ml) hgl hb4
  (by rw [yN, yN]; exact zY (zh own4 (Below.refl _ _).drew) (by have := T02.out.size; show w.heap.size <= w2.heap.size; exact this))
  (fun k hk hkn V hV => by
   rw [yu hkn, yu hkn]
   exact H.out.oth (((t04.trans (r := fun k => k = g) (Turned.of_below (p := fun k => k = g) (Below.refl _ _).drew) (fun _ e => e) (fun _ _ e => e)).trans hV (fun _ e => .inl e) (fun _ _ e => e))) hk)
  (by rw [zE]; simp only; rw [Hq.out, List.length_take]; omega)
 have KF' := ihq KF
 have T04 := ihq t04
 have Hxs := ihq hx4
 clear KF t04 hr4 hx4 hfitx e3 ks4 own4 t24 t34 h4
 go_upto_region 8 with fail
 refine zU (S := (fun W => W.cell? ⟨w.heap.size, 1, none⟩ = some (.int .i64 (n : Int)) /\ W.cell? ⟨g, 16 + n * 7 + 6, none⟩ = some (.slice (some ⟨gr, 0, none⟩) M cr) /\ W.cell? ⟨gr, 3, none⟩ = some (.slice x0.m.A x0.m.n x0.m.c))) 11 (by kernel_rfl) ?_
 have hHeld := (And.intro f1 (And.intro f6 f3))
 refine zr (n := 9) (i := 0) (v := ?vq1) rfl (by kernel_rfl) (by kernel_rfl) (by kernel_rfl) (by kernel_rfl) (by kernel_rfl) (by rfl) (by rfl) (fun _ _ _ h => h) (Or.inl ⟨by rfl, ?hyq1⟩) hHeld ?restq1
 case hyq1 => (intro w' hS; obtain ⟨s1, s2, s3⟩ := hS; (try simp only [iq4, iq5, iq6]); go_simp; try with_reducible rfl)
 try simp only [Act.put, iq1, iq2, iq3, iq4, iq5, iq6]
 refine zr (n := 9) (i := 1) (v := ?vq2) rfl (by kernel_rfl) (by kernel_rfl) (by kernel_rfl) (by kernel_rfl) (by kernel_rfl) (by rfl) (by rfl) (fun _ _ _ h => h) (Or.inl ⟨by rfl, ?hyq2⟩) hHeld ?restq2
 case hyq2 => (intro w' hS; obtain ⟨s1, s2, s3⟩ := hS; (try simp only [iq4, iq5, iq6]); go_simp; try with_reducible rfl)
 try simp only [Act.put, iq1, iq2, iq3, iq4, iq5, iq6]
 refine zr (n := 9) (i := 2) (v := ?vq3) rfl (by kernel_rfl) (by kernel_rfl) (by kernel_rfl) (by kernel_rfl) (by kernel_rfl) (by rfl) (by rfl) (fun _ _ _ h => h) (Or.inl ⟨by rfl, ?hyq3⟩) hHeld ?restq3
 case hyq3 => (intro w' hS; obtain ⟨s1, s2, s3⟩ := hS; (try simp only [iq4, iq5, iq6]); go_simp; try with_reducible rfl)
 try simp only [Act.put, iq1, iq2, iq3, iq4, iq5, iq6]
 refine zr (n := 9) (i := 3) (v := ?vq4) rfl (by kernel_rfl) (by kernel_rfl) (by kernel_rfl) (by kernel_rfl) (by kernel_rfl) (by rfl) (by rfl) (fun _ _ _ h => h) (Or.inl ⟨by rfl, ?hyq4⟩) hHeld ?restq4
 case hyq4 => (intro w' hS; obtain ⟨s1, s2, s3⟩ := hS; (try simp only [iq4, iq5, iq6]); go_simp; try with_reducible rfl)
 try simp only [Act.put, iq1, iq2, iq3, iq4, iq5, iq6]
 refine zr (n := 9) (i := 4) (v := ?vq5) rfl (by kernel_rfl) (by kernel_rfl) (by kernel_rfl) (by kernel_rfl) (by kernel_rfl) (by rfl) (by rfl) (fun _ _ _ h => h) (Or.inl ⟨by rfl, ?hyq5⟩) hHeld ?restq5
 case hyq5 => (intro w' hS; obtain ⟨s1, s2, s3⟩ := hS; (try simp only [iq4, iq5, iq6]); go_simp; try with_reducible rfl)
 try simp only [Act.put, iq1, iq2, iq3, iq4, iq5, iq6]
 refine zr (n := 9) (i := 5) (v := ?vq6) rfl (by kernel_rfl) (by kernel_rfl) (by kernel_rfl) (by kernel_rfl) (by kernel_rfl) (by rfl) (by rfl) (fun _ _ _ h => h) (Or.inl ⟨by rfl, ?hyq6⟩) hHeld ?restq6
 case hyq6 => (intro w' hS; obtain ⟨s1, s2, s3⟩ := hS; (try simp only [iq4, iq5, iq6]); go_simp; try with_reducible rfl)
 try simp only [Act.put, iq1, iq2, iq3, iq4, iq5, iq6]
 refine zr (n := 9) (i := 6) (v := ?vq7) rfl (by kernel_rfl) (by kernel_rfl) (by kernel_rfl) (by kernel_rfl) (by kernel_rfl) (by rfl) (by rfl) (fun _ _ _ h => h) (Or.inl ⟨by rfl, ?hyq7⟩) hHeld ?restq7
 case hyq7 => (intro w' hS; obtain ⟨s1, s2, s3⟩ := hS; (try simp only [iq4, iq5, iq6]); go_simp; try with_reducible rfl)
 try simp only [Act.put, iq1, iq2, iq3, iq4, iq5, iq6]
 refine zr (n := 9) (i := 7) (v := ?vq8) rfl (by kernel_rfl) (by kernel_rfl) (by kernel_rfl) (by kernel_rfl) (by kernel_rfl) (by rfl) (by rfl) (fun _ _ _ h => h) (Or.inl ⟨by rfl, ?hyq8⟩) hHeld ?restq8
 case hyq8 => (intro w' hS; obtain ⟨s1, s2, s3⟩ := hS; (try simp only [iq4, iq5, iq6]); go_simp; try with_reducible rfl)
 try simp only [Act.put, iq1, iq2, iq3, iq4, iq5, iq6]
 refine zr (n := 9) (i := 8) (v := ?vq9) rfl (by kernel_rfl) (by kernel_rfl) (by kernel_rfl) (by kernel_rfl) (by kernel_rfl) (by rfl) (by rfl) (fun _ _ _ h => h) (Or.inl ⟨by rfl, ?hyq9⟩) hHeld ?restq9
 case hyq9 => (intro w' hS; obtain ⟨s1, s2, s3⟩ := hS; (try simp only [iq4, iq5, iq6]); go_simp; try with_reducible rfl)
 try simp only [Act.put, iq1, iq2, iq3, iq4, iq5, iq6]
 refine zr (n := 9) (i := 9) (v := ?vq10) rfl (by kernel_rfl) (by kernel_rfl) (by kernel_rfl) (by kernel_rfl) (by kernel_rfl) (by rfl) (by rfl) (fun _ _ _ h => h) (Or.inl ⟨by rfl, ?hyq10⟩) hHeld ?restq10
 case hyq10 => (intro w' hS; obtain ⟨s1, s2, s3⟩ := hS; (try simp only [iq4, iq5, iq6]); go_simp; try with_reducible rfl)
 try simp only [Act.put, iq1, iq2, iq3, iq4, iq5, iq6]
 refine zr (n := 9) (i := 10) (v := ?vq11) rfl (by kernel_rfl) (by kernel_rfl) (by kernel_rfl) (by kernel_rfl) (by kernel_rfl) (by rfl) (by rfl) (fun _ _ _ h => h) (Or.inl ⟨by rfl, ?hyq11⟩) hHeld ?restq11
 case hyq11 => (intro w' hS; obtain ⟨s1, s2, s3⟩ := hS; (try simp only [iq4, iq5, iq6]); go_simp; try with_reducible rfl)
 try simp only [Act.put, iq1, iq2, iq3, iq4, iq5, iq6]
 refine zn (i := 11) (by kernel_rfl) rfl (fun K hK => ?_)
 (try simp only [iq4, iq5, iq6])
 go_simp
 refine KF'.out.mono ?_
 rintro e w5 ⟨rfl, hst5, ht5⟩
 have Hst := ihq hst5
 have Ht := ihq ht5
 clear hst5 ht5
 refine hK.out _ _ (fun h => (by cases h)) ?_
 clear hK K
 try simp only [Act.put, iq1, iq2, iq3, iq4, iq5, iq6]
 refine zu (by kernel_rfl) ?_ _
 go_wp2
 go_ret
 have hcop : (match (s.vs n).ks.take q with | k :: _ => k.ms.length | [] => 0) = x0.m.n := by
  have h1 : ((s.vs n).ks.take q)[0]? = some x0.dat := by
   rw [List.getElem?_take_of_lt (by omega), <- HXd.out, List.getElem?_map, Hx0.out]; rfl
  cases hl : (s.vs n).ks.take q with
  | nil => rw [hl] at h1; cases h1
  | cons a r =>
   rw [hl] at h1
   simp at h1
   subst h1
   exact hmn
 rw [<- HO.out, hcop]
 exact ⟨rfl, fun _ => Hst.out, (T04.out.trans (r := fun k => k = g) (Turned.of_below (p := fun k => k = g) (Below.refl _ _).drew) (fun _ e => e) (fun _ _ e => e)).trans Ht.out (fun _ e => e) (fun k hk e => by
  rcases e with e | e
  ·exact e
  ·omega)⟩
end Go.Proofs.YteebkolccbcehaaGreat
