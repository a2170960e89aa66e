/-
  Joined: VolHav, VolFew, VolFws. Conditions: each theorem's own.
-/
import Derived.Test.YteebkolccbcehaaGreatJG

section
set_option linter.all false
namespace Go.Proofs.YteebkolccbcehaaGreat
open Go.ChangeShapes Go.WideShapes Go.ChangeAt Go.RowKit
def yr (w : World) (g : Nat) (L : List Int) : Prop := ∃ cs, w.heap[g]? = some (.cells cs 52 (0, 0)) /\ cs.size = 16 /\ ∀ i, i < 16 -> cs[i]? = some (.int .i64 (L.count (i : Int) : Nat))
def z16 : Array Value := Array.replicate 16 (.int .i64 0)
def z16V : Value := .agg z16
theorem z16_run (w : World) : (zeroValue 52).run Tryz.prog w = .ok (.agg z16) w := (zero_of_info (n := 16) (v := z16V) (by kernel_rfl)).1 w
theorem yr.new (w : World) : yr (w.alloc (.cells z16 52)) w.heap.size [] :=
 ⟨z16, heap_alloc_new _ _, by simp [z16], fun i hi => by simp [z16, hi]⟩
theorem yr.turned {p : Nat -> Prop} {w w' : World} {g : Nat} {L : List Int} (h : yr w g L) (ht : Turned p w w') (hp : ¬ p g) : yr w' g L := by
 obtain ⟨cs, h1, h2⟩ := h
 exact ⟨cs, ht.heap h1 hp, h2⟩
theorem yr.below {w w' : World} {g : Nat} {L : List Int} (h : yr w g L) (hb : Below w.heap.size w w') : yr w' g L := h.turned (p := fun _ => False) (.of_below hb) id
theorem yr.cell {w : World} {g : Nat} {L : List Int} (h : yr w g L) {i : Nat} (hi : i < 16) : w.cell? ⟨g, i, none⟩ = some (.int .i64 (L.count (i : Int) : Nat)) := by
 obtain ⟨cs, h1, h2, h3⟩ := h
 rw [zc h1 i]; exact h3 i hi
theorem yr.thaw {w : World} {g : Nat} {L : List Int} (h : yr w g L) (i : Nat) : w.frozen? ⟨g, i, none⟩ = false := by
 obtain ⟨cs, h1, h2, h3⟩ := h
 exact zt h1 i
theorem yr.lt {w : World} {g : Nat} {L : List Int} (h : yr w g L) : g < w.heap.size := by
 obtain ⟨cs, h1, _⟩ := h
 exact (Array.getElem?_eq_some_iff.1 h1).1
theorem yr.more {w : World} {g : Nat} {L : List Int} (h : yr w g L) {k : Nat} (hk : k < 16) : yr (w.setCell ⟨g, k, none⟩ (.int .i64 ((L.count (k : Int) : Nat) + 1 : Int))) g (L ++ [(k : Int)]) := by
 obtain ⟨cs, h1, h2, h3⟩ := h
 refine ⟨_, zG h1 k _, by simpa using h2, fun i hi => ?_⟩
 rw [List.count_append]
 by_cases e : i = k
 ·subst e
  rw [yH (by omega)]
  simp
 ·rw [zJ e, h3 i hi]
  have : ¬ ((k : Int) = (i : Int)) := by omega
  simp [this]
def Xx (L : List Int) : List Value := (List.range 16).map fun (i : Nat) => .int .i64 (L.count (i : Int) : Nat)
theorem QN (L : List Int) {i : Nat} (hi : i < 16) : (Xx L)[i]? = some (.int .i64 (L.count (i : Int) : Nat)) := by
 unfold Xx
 rw [List.getElem?_map, List.getElem?_range hi]
 rfl
theorem xB (L : List Int) : (Xx L).length = 16 := by simp [Xx]
def Zf (L : List Int) : Array Value := (Xx L).toArray
theorem manyA_one (L : List Int) : (Zf L).all (·.oneCell') = true := by
 unfold Zf
 refine all_oneCell_toArray fun v hv => ?_
 simp only [Xx, List.mem_map] at hv
 obtain ⟨i, _, rfl⟩ := hv
 rfl
theorem manyA_at {w : World} {g : Nat} {L : List Int} (h : w.heap[g]? = some (.cells (Zf L) 52 (0, 0))) : yr w g L :=
 ⟨_, h, by simp [Zf, xB], fun i hi => by rw [Zf, List.getElem?_toArray]; exact QN L hi⟩
theorem QP {w : World} {g : Nat} {L : List Int} (h : yr w g L) : (ldPk (.pointer (some ⟨g, 0, none⟩))).run Tryz.prog w = .ok (.agg (Zf L)) w := by
 have hr : w.rangeAt g 0 (Xx L) := fun j v hv => by
  have hj : j < 16 := by have := (List.getElem?_eq_some_iff.1 hv).1; rwa [xB] at this
  rw [QN L hj] at hv
  rw [Nat.zero_add, h.cell hj]
  exact hv
 exact run_loadAt_mid w g 0 52 (Xx L) _ hr Tryz.underlying52 rfl (by rw [xB]; exact XL)
def stPk (p v : Value) : Sem Unit := Instr.storeAt 52 p v
theorem stPk_eq (p v : Value) : Instr.storeAt 52 p v = stPk p v := rfl
theorem stPk_run {w : World} {g : Nat} {cs : Array Value} (h : w.heap[g]? = some (.cells cs 52 (0, 0))) (hs : cs.size = 16) (L : List Int) :
  ∃ w', (stPk (.pointer (some ⟨g, 0, none⟩)) (.agg (Zf L))).run Tryz.prog w = .ok () w' /\ w'.heap[g]? = some (.cells (Zf L) 52 (0, 0)) /\ Turned (fun k => k = g) w w' :=
 ZH (T := 52) h (by rw [hs]; simp [Zf, xB]) (by rw [show (Zf L).size = 16 by simp [Zf, xB]]; exact XL) (manyA_one L)
theorem flatK_take {l : List Chk} {j : Nat} {k : Chk} (h : l[j]? = some k) : z8 (l.take (j + 1)) = z8 (l.take j) ++ (k.ms ++ k.js) := by
 obtain ⟨hk, rfl⟩ := List.getElem?_eq_some_iff.1 h
 rw [List.take_succ_eq_append_getElem hk, xo]
 simp [z8]
theorem Xl {l : List Chk} (h : ∀ k ∈ l, Z4 k) : (z8 l).length <= l.length * 32 := by
 induction l with
 | nil => simp [z8]
 | cons k r ih =>
  have h1 := ih fun q hq => h q (List.mem_cons_of_mem _ hq)
  have h2 := h k (List.mem_cons_self ..)
  have h3 := h2.ml
  have h4 := h2.jl
  have e : z8 (k :: r) = (k.ms ++ k.js) ++ z8 r := by simp [z8]
  rw [e, List.length_append, List.length_append, List.length_cons]
  omega
theorem QZ {s : St} (h : yF s) {n : Nat} (hn : n <= 64) : ∀ k ∈ zX s n, Z4 k := fun k hk => by
 obtain ⟨i, hi, hk⟩ := List.mem_flatMap.1 hk
 have := List.mem_range.1 hi
 exact (h.vs i (by omega)).ks k hk
attribute [local go_sem ↓] yd
attribute [local go_sem ↓] yv
attribute [local go_sem ↓] ldPk_eq
attribute [local go_sem ↓] stPk_eq
set_option maxRecDepth 100000 in
set_option maxHeartbeats 4000000 in
theorem Vhaving (g : Nat) (s : St) (w : World) (h : StAt w g s) (hf : yF s) :
  Calls Tryz.prog 106 #[.pointer (some ⟨g, 0, none⟩)] w fun e w' => e = .returned (.agg (Zf (z8 (zX s 64)))) /\ Below w.heap.size w w' := by
 have hz := z16_run
 obtain ⟨w1, hw1⟩ : ∃ w1, w.alloc (.cells z16 52) = w1 := ⟨_, rfl⟩
 have hb1 : Below w.heap.size w w1 := by rw [<- hw1]; exact zg _ _
 have hr1 : w1.heap[w.heap.size]? = some (.cells z16 52 (0, 0)) := by rw [<- hw1]; exact heap_alloc_new _ _
 obtain ⟨w2, hw2⟩ : ∃ w2, w1.alloc (.cells z16 52) = w2 := ⟨_, rfl⟩
 have hb2 : Below w1.heap.size w1 w2 := by rw [<- hw2]; exact zg _ _
 have hm2 : yr w2 w1.heap.size [] := by rw [<- hw2]; exact yr.new w1
 obtain ⟨cs, K, X, h⟩ := h
 have H := ihq h; have Hf := ihq hf; have Hr2 := ihq (za hr1 hb2); have Hb2 := ihq (hb1.trans (hb2.mono hb1.size)); have Hm2 := ihq hm2
 have hs1 : w.heap.size < w1.heap.size := (Array.getElem?_eq_some_iff.1 hr1).1
 clear h hf hb1 hr1 hb2 hm2
 go_enter Tryz.func106, Tryz.ntmps106
 go_wp2
 go_loopw [9] (fun iv wr => ∃ i : Nat, i <= 64 /\ iv = .int .i64 (i : Int) /\ yr wr w1.heap.size (z8 (zX s i)) /\ wr.heap[w.heap.size]? = some (.cells z16 52 (0, 0)) /\ Below w.heap.size w wr) (fun iv _ => 64 - (intOf iv).toNat)
 case atStart => exact ⟨0, by omega, rfl, Hm2.out, Hr2.out, Hb2.out⟩
 case round =>
  obtain ⟨i, hin, rfl, hm, hr, hb⟩ := hrel
  obtain ⟨wo, hwo⟩ : ∃ wo : World, wo = wr := ⟨_, rfl⟩
  rw [<- hwo] at hm hr hb ⊢
  clear hwo
  by_cases hi : i < 64
  ·have ho := H.out.below hb
   have i0 : (0 : Int) <= (i : Int) := by omega
   have i1 : (i : Int) < 64 := by omega
   have c6 : wo.cell? ⟨g, 16 + i * 7 + 6, none⟩ = some (.slice (K i).A (K i).n (K i).c) := by rw [ho.cell]; exact ho.c6 i hi
   have hvf := Hf.out.vs i hi
   have hkl := hvf.kl
   have hlen := ho.len hi
   have hafl := Xl (QZ Hf.out (n := i) (by omega))
   have hal := Yu Hf.out i (by omega)
   obtain ⟨L0, hL0⟩ : ∃ L0, zX s i = L0 := ⟨_, rfl⟩
   rw [hL0] at hm hafl hal
   obtain ⟨ks, hks⟩ : ∃ ks, (s.vs i).ks = ks := ⟨_, rfl⟩
   rw [hks] at hlen hkl
   have Hks := ihq hks; have HL0 := ihq hL0; have Hvf := ihq hvf; have Ho := ihq ho; have Hb := ihq hb; have Hm := ihq hm; have Hr := ihq hr; have Hlen := ihq hlen
   have hn64 : (K i).n <= 64 := by omega
   obtain ⟨S, hS⟩ : ∃ S, K i = S := ⟨_, rfl⟩
   have HS := ihq hS
   rw [hS] at c6 hn64 Hlen
   clear ho hb hm hr hlen hks hL0 hvf hS hkl
   obtain ⟨A0, n, c0⟩ := S
   simp only at c6 hn64 Hlen
   go_wp2
   go_loopw [20] (fun jv wr => ∃ j : Nat, j <= n /\ jv = .int .i64 (j : Int) /\ yr wr w1.heap.size (z8 (L0 ++ ks.take j)) /\ wr.heap[w.heap.size]? = some (.cells z16 52 (0, 0)) /\ Below w.heap.size w wr) (fun jv _ => n - (intOf jv).toNat)
   case atStart => exact ⟨0, by omega, rfl, by simpa using Hm.out, Hr.out, Hb.out⟩
   case round =>
    obtain ⟨j, hjn, rfl, hm, hr, hb⟩ := hrel
    obtain ⟨wp, hwp⟩ : ∃ wp : World, wp = wr := ⟨_, rfl⟩
    rw [<- hwp] at hm hr hb ⊢
    clear hwp
    by_cases hj : j < n
    ·have j0 : (0 : Int) <= (j : Int) := by omega
     have j1 : (j : Int) < (n : Int) := by omega
     have ho := H.out.below hb
     have hkt := ho.ks i hi
     rw [HS.out] at hkt
     obtain ⟨k, hx⟩ : ∃ r, (X i)[j]? = some r := ⟨_, List.getElem?_eq_getElem (by have := hkt.len; simp only at this; omega)⟩
     obtain ⟨g1, o1, hA, hat⟩ := hkt.get hx
     simp only at hA
     subst hA
     have hld := zC hat
     have hok := hkt.ok k (List.mem_of_getElem? hx)
     have hkd : ks[j]? = some k.dat := by rw [<- Hks.out, <- ho.dat i hi, List.getElem?_map, hx]; rfl
     have hcf := Hvf.out.ks k.dat (by rw [Hks.out]; exact List.mem_of_getElem? hkd)
     obtain ⟨wz, w4, hwz, hst9, hb4, hr4⟩ := yq wp k
     have d3 : w4.cell? ⟨wp.heap.size, 3, none⟩ = some (.slice k.m.A k.m.n k.m.c) := zc hr4 3
     have d4 : w4.cell? ⟨wp.heap.size, 4, none⟩ = some (.slice k.j.A k.j.n k.j.c) := zc hr4 4
     obtain ⟨w5, hw5⟩ : ∃ w5, w4.alloc (.cells #[.slice k.m.A k.m.n k.m.c, .slice k.j.A k.j.n k.j.c] 28) = w5 := ⟨_, rfl⟩
     have hb5 : Below w4.heap.size w4 w5 := by rw [<- hw5]; exact zg _ _
     have hr5 : w5.heap[w4.heap.size]? = some (.cells #[.slice k.m.A k.m.n k.m.c, .slice k.j.A k.j.n k.j.c] 28 (0, 0)) := by rw [<- hw5]; exact heap_alloc_new _ _
     have hb45 := hb4.trans (hb5.mono hb4.size)
     have KC := ihq (VConcat k.m k.j k.ms k.js w4.heap.size w5 (zc hr5 0) (zc hr5 1) (hok.m.below hb45) (hok.j.below hb45) (by have : k.ms.length <= 16 := hcf.ml; omega) (by have : k.js.length <= 16 := hcf.jl; omega))
     have hfl : z8 (ks.take (j + 1)) = z8 (ks.take j) ++ (k.ms ++ k.js) := flatK_take hkd
     have hin15 : ∀ x ∈ k.ms ++ k.js, 0 <= x /\ x <= 15 := fun x hx => by
      rcases List.mem_append.1 hx with h | h
      ·exact hcf.ms x h
      ·exact hcf.js x h
     have hlen32 : (k.ms ++ k.js).length <= 32 := by rw [List.length_append]; have : k.ms.length <= 16 := hcf.ml; have : k.js.length <= 16 := hcf.jl; omega
     obtain ⟨us, hus⟩ : ∃ us, k.ms ++ k.js = us := ⟨_, rfl⟩
     rw [hus] at KC hfl hin15 hlen32
     obtain ⟨L1, hL1⟩ : ∃ L1, z8 (L0 ++ ks.take j) = L1 := ⟨_, rfl⟩
     have hL2 : z8 (L0 ++ ks.take (j + 1)) = L1 ++ us := by rw [xo, hfl, <- List.append_assoc, <- xo, hL1]
     have hL1l : L1.length <= 1000000 := by
      rw [<- hL1, xo, List.length_append]
      have h1 := Xl (l := ks.take j) (fun q hq => Hvf.out.ks q (by rw [Hks.out]; exact List.mem_of_mem_take hq))
      have h2 : (ks.take j).length <= 64 := by rw [List.length_take]; omega
      omega
     rw [hL1] at hm
     have Hm := ihq (hm.below hb45); have Hr := ihq (za hr hb45); have Hb := ihq (hb.trans (hb45.mono hb.size)); have HL2 := ihq hL2; have Hin := ihq hin15
     clear hm hr hb hb45 hb4 hr4 hb5 hr5 hok hkd hcf hfl hus hL1 hL2 hin15 hkt hat hx ho
     go_wp2_with (go_at_call 97; refine KC.out.mono ?_; rintro e w6 ⟨S6, rfl, hown6, hb6⟩; have Hown6 := ihq hown6; have Hb6 := ihq hb6; clear hown6 hb6)
     have hlu : us.length = S6.n := by have := Hown6.out.1; rw [zz] at this; omega
     have hs6 := Hb6.out.size
     have hm5 := Hm.out.lt
     have hne6 : ∀ b o, S6.A = some ⟨b, o, none⟩ -> ¬ b = w1.heap.size := fun b o e hb => by
      rcases Hown6.out.2 with ⟨hv, _⟩ | ⟨g', cap, cur, hv, hg', hh, _⟩
      ·injection hv with h1 _ _
       rw [h1] at e
       cases e
      ·injection hv with h1 _ _
       rw [h1] at e
       injection e with e
       injection e with e
       omega
     have Hlu := ihq hlu; have Hne6 := ihq hne6
     have hm32 : S6.n <= 32 := by omega
     have hsee := Seen.of_own Hown6.out
     have Hsee := ihq hsee
     have Hm6 := ihq (Hm.out.below Hb6.out); have Hr6 := ihq (za Hr.out Hb6.out); have Hbw6 := ihq (Hb.out.trans (Hb6.out.mono Hb.out.size))
     clear hlu hne6 hsee
     obtain ⟨A6, m, c6'⟩ := S6
     simp only at Hlu Hne6 hm32 Hsee
     go_loopw [31] (fun qv wr => ∃ q : Nat, q <= m /\ qv = .int .i64 (q : Int) /\ yr wr w1.heap.size (L1 ++ us.take q) /\ Seen wr A6 (zo us) /\ wr.heap[w.heap.size]? = some (.cells z16 52 (0, 0)) /\ Below w.heap.size w wr) (fun qv _ => m - (intOf qv).toNat)
     case atStart => exact ⟨0, by omega, rfl, by simpa using Hm6.out, Hsee.out, Hr6.out, Hbw6.out⟩
     case round =>
      obtain ⟨q, hqm, rfl, hm, hs, hr, hb⟩ := hrel
      by_cases hq : q < m
      ·have q0 : (0 : Int) <= (q : Int) := by omega
       have q1 : (q : Int) < (m : Int) := by omega
       obtain ⟨gq, oq, x, hA, hx, hxc⟩ := hs.num (j := q) (by have := Hlu.out; omega)
       have hxi := Hin.out x (List.mem_of_getElem? hx)
       obtain ⟨y, rfl⟩ := Int.eq_ofNat_of_zero_le hxi.1
       have hy : y < 16 := by omega
       have y0 : (0 : Int) <= (y : Int) := by omega
       have y1 : (y : Int) < 16 := by omega
       have hmc := hm.cell hy
       have hmz := hm.thaw y
       have hmm := hm.more hy
       have hcnt : (L1 ++ us.take q).count (y : Int) <= 2000000 := by
        have h1 := List.count_le_length (l := L1 ++ us.take q) (a := (y : Int))
        rw [List.length_append, List.length_take] at h1
        omega
       obtain ⟨N, hN⟩ : ∃ N, (L1 ++ us.take q).count (y : Int) = N := ⟨_, rfl⟩
       rw [hN] at hmc hmm hcnt
       have htk : us.take (q + 1) = us.take q ++ [(y : Int)] := by
        obtain ⟨h1, h2⟩ := List.getElem?_eq_some_iff.1 hx
        rw [List.take_succ_eq_append_getElem h1, h2]
       have Htk := ihq htk
       have ht : Turned (fun k => k = w1.heap.size) wr (wr.setCell ⟨w1.heap.size, y, none⟩ (.int .i64 ((N : Nat) + 1 : Int))) := (Turned.refl (fun k => k = w1.heap.size) wr).setCell (b := ⟨w1.heap.size, y, none⟩) (fun _ => rfl) _
       have hs2 := ht.seen hs (fun b o e => Hne6.out b o e)
       have hr2 := ht.heap hr (by omega)
       have hb2 := hb.trans (ht.below (fun k e => by omega) hb.size)
       have Hmm := ihq hmm; have Hs2 := ihq hs2; have Hrr := ihq hr2; have Hbb := ihq hb2
       clear htk ht hs2 hr2 hb2 hm hs hr hb hx hxi hN hmm
       subst hA
       go_wp2
       go_roundw
       case rel => exact ⟨q + 1, by omega, by go_num, by rw [Htk.out, <- List.append_assoc]; exact Hmm.out, Hs2.out, Hrr.out, Hbb.out⟩
       case measure => simp [intOf]; omega
      ·obtain rfl : q = m := by omega
       have q1 : ¬ (q : Int) < (q : Int) := by omega
       have hty : us.take q = us := List.take_of_length_le (by rw [Hlu.out]; exact Nat.le_refl _)
       rw [hty, <- HL2.out] at hm
       have Hmf := ihq hm; have Hrf := ihq hr; have Hbf := ihq hb
       clear hm hs hr hb hty
       go_wp2
       go_roundw
       case rel => exact ⟨j + 1, by omega, by go_num, Hmf.out, Hrf.out, Hbf.out⟩
       case measure => simp [intOf]; omega
    ·obtain rfl : j = n := by omega
     have j1 : ¬ (j : Int) < (j : Int) := by omega
     have hty : ks.take j = ks := List.take_of_length_le (by have := Hlen.out; omega)
     have e1 : L0 ++ ks = zX s (i + 1) := by rw [YJ, HL0.out, Hks.out]
     rw [hty, e1] at hm
     have Hmf := ihq hm; have Hrf := ihq hr; have Hbf := ihq hb
     clear hm hr hb hty e1
     go_wp2
     go_roundw
     case rel => exact ⟨i + 1, by omega, by go_num, Hmf.out, Hrf.out, Hbf.out⟩
     case measure => simp [intOf]; omega
  ·obtain rfl : i = 64 := by omega
   have i1 : ¬ ((64 : Nat) : Int) < 64 := by omega
   have hld := QP hm
   obtain ⟨w9, hst, hr9, ht9⟩ := stPk_run hr (by simp [z16]) (z8 (zX s 64))
   have Hr9 := ihq hr9; have Ht9 := ihq ht9; have Hb := ihq hb
   clear hm hr hb hr9 ht9
   go_wp2
   refine bodyPost_ret (results_cell_row rfl _ _ w.heap.size 52 (Zf (z8 (zX s 64))) (0, 0) _ rfl Hr9.out Tryz.underlying52 rfl (by rw [show (Zf (z8 (zX s 64))).size = 16 by simp [Zf, xB]]; exact XL)) rfl ⟨rfl, Hb.out.trans (Ht9.out.below (fun k e => by omega) Hb.out.size)⟩
end Go.Proofs.YteebkolccbcehaaGreat
end

section
set_option linter.all false
namespace Go.Proofs.YteebkolccbcehaaGreat
open Go.ChangeShapes Go.WideShapes Go.ChangeAt Go.RowKit Go.Sort Go.Shelf Go.Lib
def Zv (L : List Int) (x y : Fin 16) : Int :=
 if Lib.compareInt (L.count ((x.1 : Nat) : Int) : Nat) (L.count ((y.1 : Nat) : Int) : Nat) = 0 then Lib.compareInt ((x.1 : Nat) : Int) ((y.1 : Nat) : Int) else Lib.compareInt (L.count ((x.1 : Nat) : Int) : Nat) (L.count ((y.1 : Nat) : Int) : Nat)
theorem QV (L : List Int) (x y : Fin 16) : Zv L x y < 0 ↔ (L.count ((x.1 : Nat) : Int) < L.count ((y.1 : Nat) : Int) \/ (L.count ((x.1 : Nat) : Int) = L.count ((y.1 : Nat) : Int) /\ x.1 < y.1)) := by
 unfold Zv Lib.compareInt
 generalize L.count ((x.1 : Nat) : Int) = a
 generalize L.count ((y.1 : Nat) : Int) = b
 obtain ⟨x, hx⟩ := x
 obtain ⟨y, hy⟩ := y
 simp only
 repeat' split
 all_goals omega
theorem ltOf_few (L : List Int) (x y : Fin 16) : (!(ltOf (Zv L)) y x) = yL (fun i => L.count (i : Int)) x.1 y.1 := by
 unfold ltOf yL
 rw [Bool.eq_iff_iff]
 simp only [Bool.not_eq_true', decide_eq_false_iff_not, QV, Bool.or_eq_true, Bool.and_eq_true, decide_eq_true_eq]
 omega
theorem Zn (L : List Int) (x y : Fin 16) : ltOf (Zv L) x y = true ↔ (L.count ((x.1 : Nat) : Int) < L.count ((y.1 : Nat) : Int) \/ (L.count ((x.1 : Nat) : Int) = L.count ((y.1 : Nat) : Int) /\ x.1 < y.1)) := by
 unfold ltOf
 rw [decide_eq_true_eq, QV]
theorem swo_few (L : List Int) : SWO (ltOf (Zv L)) := by
 refine ⟨fun x => ?_, fun x y z h1 h2 => ?_, fun x y z h1 h2 => ?_⟩
 ·rw [<- Bool.not_eq_true, Zn]; omega
 ·rw [Zn] at *
  omega
 ·rw [<- Bool.not_eq_true, Zn] at *
  omega
theorem grown_more {w W1 W3 : World} {os : Array Obj} {o : Obj} (h : W1 = grow w os) (k : (W1.alloc o).drew = W3) : ∃ q os', W3 = grow (w.drewN q) os' :=
 ⟨1, os ++ #[o], by rw [<- k, h, alloc_eq_grow, grow_grow]; rfl⟩
set_option maxRecDepth 100000 in
set_option maxHeartbeats 4000000 in
theorem VfewCmp (L : List Int) (bm : Nat) (x y : Fin 16) (w : World) (h : yr w bm L) :
  Calls Tryz.prog 132 #[.int .i64 ((x.1 : Nat) : Int), .int .i64 ((y.1 : Nat) : Int), .pointer (some ⟨bm, 0, none⟩)] w fun e w' => e = .returned (.int .i64 (Zv L x y)) /\ ∃ q os', w' = grow (w.drewN q) os' := by
 obtain ⟨x, hx⟩ := x
 obtain ⟨y, hy⟩ := y
 have f1 := h.cell hx
 have f2 := h.cell hy
 unfold Zv
 simp only
 obtain ⟨kx, hkx⟩ : ∃ k, L.count ((x : Nat) : Int) = k := ⟨_, rfl⟩
 obtain ⟨ky, hky⟩ : ∃ k, L.count ((y : Nat) : Int) = k := ⟨_, rfl⟩
 rw [hkx] at f1 ⊢
 rw [hky] at f2 ⊢
 obtain ⟨ck, hck⟩ : ∃ c, Lib.compareInt (kx : Int) (ky : Int) = c := ⟨_, rfl⟩
 obtain ⟨cn, hcn⟩ : ∃ c, Lib.compareInt (x : Int) (y : Int) = c := ⟨_, rfl⟩
 rw [hck, hcn]
 have Hk := ihq (fun W => (by rw [<- hck]; exact Yl (kx : Int) (ky : Int) W : Calls Tryz.prog 104 #[.int .i64 (kx : Int), .int .i64 (ky : Int)] W fun e w' => e = .returned (.int .i64 ck) /\ W = w'))
 have Hn := ihq (fun W => (by rw [<- hcn]; exact Yl (x : Int) (y : Int) W : Calls Tryz.prog 104 #[.int .i64 (x : Int), .int .i64 (y : Int)] W fun e w' => e = .returned (.int .i64 cn) /\ W = w'))
 clear hkx hky hck hcn h
 have x0 : (0 : Int) <= (x : Int) := by omega
 have x1 : (x : Int) < 16 := by omega
 have y0 : (0 : Int) <= (y : Int) := by omega
 have y1 : (y : Int) < 16 := by omega
 obtain ⟨r, hr⟩ : ∃ r, (if ck = 0 then cn else ck) = r := ⟨_, rfl⟩
 rw [hr]
 have Hres := ihq hr
 clear hr hx hy
 obtain ⟨W3, hW3⟩ : ∃ W3, (w.alloc (.cells #[.int .i64 ck, .int .i64 cn] 3)).drew = W3 := ⟨_, rfl⟩
 have Hb3 : Below w.heap.size w W3 := by rw [<- hW3]; exact ((Below.refl _ _).alloc (Nat.le_refl _) _).drew
 have g1 := (Hb3.cell (block_lt_of_cell f1)).trans f1
 have g2 := (Hb3.cell (block_lt_of_cell f2)).trans f2
 have d1 : W3.cell? ⟨w.heap.size, 0, none⟩ = some (.int .i64 ck) := by rw [<- hW3]; exact (new_two _ _ _ _).1
 have d2 : W3.cell? ⟨w.heap.size, 1, none⟩ = some (.int .i64 cn) := by rw [<- hW3]; exact (new_two _ _ _ _).2
 have HW3 := ihq hW3
 have HO := ihq (by rw [<- Hres.out]; exact Or_two ck cn _ W3 d1 d2 : Calls Tryz.prog 133 #[.slice (some ⟨w.heap.size, 0, none⟩) 2 2] W3 fun e w' => e = .returned (.int .i64 r) /\ W3 = w')
 have Hg := ihq (And.intro g1 g2)
 clear hW3 Hb3 d1 d2 g1 g2
 go_enter Tryz.func132, Tryz.ntmps132
 go_wp2
 go_region_held3 (fun w' => w'.cell? ⟨bm, x, none⟩ = some (.int .i64 (kx : Int)) /\ w'.cell? ⟨bm, y, none⟩ = some (.int .i64 (ky : Int)))
  (first | exact ⟨f1, f2⟩ | (rw [HW3.out]; exact Hg.out) | exact Hg.out)
  (first
   | (go_at_call 133; rw [HW3.out]; refine HO.out.mono ?_; rintro e w' ⟨rfl, rfl⟩)
   | (go_at_call_of 104 (Value.int .i64 (kx : Int)); refine (Hk.out _).mono ?_; rintro e w' ⟨rfl, rfl⟩)
   | (go_at_call_of 104 (Value.int .i64 (x : Int)); refine (Hn.out _).mono ?_; rintro e w' ⟨rfl, rfl⟩))
 all_goals
  go_wp2
  go_ret
  exact ⟨rfl, grown_more (show w = grow w #[] from (grow_empty w).symm) HW3.out⟩
def encF (x : Fin 16) : Value := .int .i64 ((x.1 : Nat) : Int)
theorem encF_one : OneCell encF := fun _ => rfl
theorem finL_val (l : List Nat) (h : ∀ x ∈ l, x < 16) : (l.map (Fin.ofNat 16)).map (fun x => x.1) = l := by
 rw [List.map_map]
 conv => rhs; rw [<- List.map_id l]
 apply List.map_congr_left
 intro x hx
 have := h x hx
 simp [Fin.ofNat]
 omega
theorem QT (l : List (Fin 16)) : l.map encF = zo (toI (l.map fun x => x.1)) := by
 unfold zo toI
 rw [List.map_map, List.map_map]
 rfl
theorem sort_fin (L : List Int) (l : List Nat) (h : ∀ x ∈ l, x < 16) : ((l.map (Fin.ofNat 16)).mergeSort fun x y => !(ltOf (Zv L)) y x).map (fun x => x.1) = l.mergeSort (yL fun i => L.count (i : Int)) := by
 rw [List.map_mergeSort (s := yL fun i => L.count (i : Int)) (f := fun x : Fin 16 => x.1) (fun a _ b _ => ltOf_few L a b), finL_val l h]
theorem Xt {w : World} {B g n c q : Nat} {T : TypeId} {xs : List Value} {d : Array (Fin 16)} {os : Array Obj} (h : w.ownsRow B T 1 (.slice (some ⟨g, 0, none⟩) n c) n xs) (hd : d.size = n) :
  (sortWorld encF w g 0 q d os).ownsRow B T 1 (.slice (some ⟨g, 0, none⟩) n c) n (d.toList.map encF) /\ Turned (fun k => k = g) w (sortWorld encF w g 0 q d os) := by
 rcases h.2 with ⟨hv, _⟩ | ⟨g', cap, cur, hv, hg, hh, h1, h2, h3, h4⟩
 ·cases hv
 ·injection hv with hv _ hc
  injection hv with hv
  injection hv with hv
  subst hv; subst hc
  have hlt := (Array.getElem?_eq_some_iff.1 hh).1
  have hrow : (sortWorld encF w g 0 q d os).heap[g]? = some (.cells (putCells encF 0 d cur) T (0, 0)) := by
   show (w.heap.modify g (onCells (putCells encF 0 d)) ++ os)[g]? = _
   rw [Array.getElem?_append_left (by simpa using hlt), Array.getElem?_modify, if_pos rfl, hh]
   rfl
  refine ⟨⟨by rw [List.length_map, Array.length_toList, hd]; omega, .inr ⟨g, c, _, rfl, hg, hrow, h1, h2, by simp [putCells, h3], ?_⟩⟩, ⟨rfl, rfl, rfl, ?_, fun k hk hn => ?_⟩⟩
  ·apply List.ext_getElem?
   intro j
   rw [List.getElem?_take]
   by_cases hj : j < n * 1
   ·rw [if_pos hj, List.getElem?_map, Array.getElem?_toList, Array.getElem?_toList]
    have hjc : j < cur.size := by omega
    have hjd : j < d.size := by omega
    simp only [putCells, Array.getElem?_mapIdx, Array.getElem?_eq_getElem hjc, Option.map_some, Array.getElem?_eq_getElem hjd]
    rw [if_pos ⟨Nat.zero_le _, by omega⟩]
    simp [hjd]
   ·rw [if_neg hj, eq_comm, List.getElem?_eq_none_iff, List.length_map, Array.length_toList, hd]; omega
  ·show w.heap.size <= (w.heap.modify g (onCells (putCells encF 0 d)) ++ os).size
   simp
  ·show (w.heap.modify g (onCells (putCells encF 0 d)) ++ os)[k]? = _
   rw [Array.getElem?_append_left (by simpa using hk), Array.getElem?_modify, if_neg (fun e => hn e.symm)]
theorem VSortFew (B bm : Nat) (A : Option Addr) (n c : Nat) (L : List Int) (l : List Nat) (w : World) (hl : l.length = n) (h16 : ∀ x ∈ l, x < 16) (hn : n <= 1000) (hown : w.ownsRow B 3 1 (.slice A n c) n (zo (toI l))) (hm : yr w bm L) :
  Calls Tryz.prog 131 #[.slice A n c, .func (.func 132) #[] #[.pointer (some ⟨bm, 0, none⟩)]] w fun e w' => e = .returned (.tuple #[]) /\ w'.ownsRow B 3 1 (.slice A n c) n (zo (toI (l.mergeSort (yL fun i => L.count (i : Int))))) /\ Turned (fun k => (Value.slice A n c).ownBlock = some k) w w' := by
 rcases hown.2 with ⟨hv, hn0⟩ | ⟨g, cap, cur, hv, hg, hh, h1, h2, h3, h4⟩
 ·have ht : l = [] := List.length_eq_zero_iff.1 (by omega)
  subst ht
  subst hn0
  refine (AnyF.slices_SortFunc_none { Tryz.sortFuncA with } A c _ w).mono ?_
  rintro e w' ⟨rfl, rfl⟩
  exact ⟨rfl, by simpa using hown, Turned.refl _ _⟩
 ·injection hv with hA _ hc
  subst hA; subst hc
  have eg : ∀ args w, (callFunc 132 args).run Tryz.prog w = .ok (.enter 132 args) w := enters_of Tryz.func132 (by kernel_rfl) rfl
  have hdsz : (l.map (Fin.ofNat 16)).toArray.size = n := by simp [hl]
  have hlist : (l.map (Fin.ofNat 16)).map encF = zo (toI l) := by rw [QT, finL_val l h16]
  have hne : g ≠ bm := fun e => by
   obtain ⟨cs, h5, _⟩ := hm
   rw [<- e, hh] at h5
   injection h5 with h5
   injection h5 with _ h5
   exact absurd h5 (by decide)
  have hH : Holds encF w g 0 (l.map (Fin.ofNat 16)).toArray := by
   intro j hj
   refine ⟨?_, hown.frozenAt _⟩
   rw [hdsz] at hj
   rw [Nat.zero_add, hown.cellAt _ (by omega), <- hlist]
   rw [List.getElem?_map, getElem!_pos _ j (by rw [hdsz]; exact hj)]
   rw [List.getElem?_eq_getElem (by simpa [hl] using hj)]
   simp
  have hcmp : CmpLays1 Tryz.prog 132 #[.pointer (some ⟨bm, 0, none⟩)] encF (Zv L) g 0 (l.map (Fin.ofNat 16)).toArray.size w := fun m os dk hk x y => by
   refine VfewCmp L bm x y _ (hm.turned (p := fun k => k = g) ?_ (fun e => hne e.symm))
   rw [hdsz] at hk
   exact (Xt hown hk).2
  have h := Any.slices_SortFunc_total Tryz.sortFuncA encF encF_one (Zv L) (swo_few L) 132 #[.pointer (some ⟨bm, 0, none⟩)] g 0 c (l.map (Fin.ofNat 16)).toArray w eg hcmp hH (Array.getElem?_eq_some_iff.1 hh).1 (by rw [hdsz]; omega)
   (fun x y h1 h2 => by
    rw [<- Bool.not_eq_true, Zn] at h1 h2
    exact Fin.ext (by omega))
  rw [hdsz] at h
  refine h.mono ?_
  rintro e w' ⟨rfl, m, os, rfl⟩
  have hs := Xt (q := m) (d := ((l.map (Fin.ofNat 16)).mergeSort fun x y => !(ltOf (Zv L)) y x).toArray) (os := os) hown (by simp [List.length_mergeSort, hl])
  refine ⟨rfl, ?_, hs.2.mono fun k _ e => by subst e; rfl⟩
  have := hs.1
  rw [QT, sort_fin L l h16] at this
  exact this
end Go.Proofs.YteebkolccbcehaaGreat
end

section
set_option linter.all false
namespace Go.Proofs.YteebkolccbcehaaGreat
open Go.ChangeShapes Go.WideShapes Go.ChangeAt Go.RowKit
theorem XO (a b : List Nat) : toI (a ++ b) = toI a ++ toI b := by simp [toI]
theorem xI (l : List Nat) : (toI l).length = l.length := by simp [toI]
theorem toI_take (l : List Nat) (k : Nat) : toI (l.take k) = (toI l).take k := by simp [toI, List.map_take]
def FewRet (us : List Int) (w : World) (e : Ending) (w' : World) : Prop :=
 ∃ S : Sl, e = .returned (.slice S.A S.n S.c) /\ zQ w' S us /\ (∀ b o, S.A = some ⟨b, o, none⟩ -> w.heap.size <= b) /\ Below w.heap.size w w'
set_option maxRecDepth 100000 in
set_option maxHeartbeats 2000000 in
theorem Vfewest (g : Nat) (s : St) (L : List Int) (copies : Nat) (w : World) (h : StAt w g s) (hc : copies <= 100) :
  Calls Tryz.prog 107 #[.pointer (some ⟨g, 0, none⟩), .agg (Zf L), .int .i64 (copies : Int)] w (FewRet (toI (fewF (fun i => L.count (i : Int)) (zm s.pk) copies)) w) := by
 have hmk : ∀ (fn : Fn) (first cap : Array Value) (w : World), (Instr.makeFunc fn first cap).run Tryz.prog w = .ok (.func fn first cap) w := fun _ _ _ _ => rfl
 obtain ⟨w1, hw1⟩ : ∃ w1, w.alloc (.cells (Zf L) 52) = w1 := ⟨_, rfl⟩
 have hb1 : Below w.heap.size w w1 := by rw [<- hw1]; exact zg _ _
 have hm1 : yr w1 w.heap.size L := manyA_at (by rw [<- hw1]; exact heap_alloc_new _ _)
 have KS := ihq (Zk g s w1 (h.below hb1))
 have hlen : (zm s.pk).length <= 16 := xM s.pk 16
 obtain ⟨l, hl⟩ : ∃ l, zm s.pk = l := ⟨_, rfl⟩
 have h16 : ∀ x ∈ l, x < 16 := fun x hx => by
  rw [<- hl] at hx
  exact List.mem_range.1 (List.mem_filter.1 hx).1
 rw [hl] at KS hlen ⊢
 obtain ⟨n, hn⟩ : ∃ n, l.length = n := ⟨_, rfl⟩
 rw [hn] at KS hlen
 have Hn := ihq hn; have H16 := ihq h16; have Hm1 := ihq hm1; have Hb1 := ihq hb1
 clear h hl hn h16 hm1 hb1
 go_enter Tryz.func107, Tryz.ntmps107
 go_wp2_with (go_at_call 27; refine KS.out.mono ?_; rintro e w2 ⟨A1, c1, rfl, hown1, hb2⟩; have Ho1 := ihq hown1; have Hb2 := ihq (Hb1.out.trans (hb2.mono Hb1.out.size)); have Hm2 := ihq (Hm1.out.below hb2); clear hown1 hb2)
 go_loopw [7, 13] (fun sv iv wr => ∃ (i : Nat) (A' : Option Addr) (c' : Nat), i <= n /\ iv = .int .i64 (i : Int) /\ sv = .slice A' i c' /\ wr.ownsRow w2.heap.size 3 1 (.slice A' i c') i (zo (toI (l.take i))) /\ Below w2.heap.size w2 wr) (fun _ iv _ => n - (intOf iv).toNat)
 case atStart => exact ⟨0, _, _, by omega, rfl, rfl, World.ownsRow_nil _ _ _ _, Below.refl _ _⟩
 case round =>
  obtain ⟨i, A', c', hin, rfl, rfl, ho, hb⟩ := hrel
  by_cases hi : i < n
  ·obtain ⟨x, hx⟩ : ∃ x, l[i]? = some x := ⟨_, List.getElem?_eq_getElem (by have := Hn.out; omega)⟩
   have i0 : (0 : Int) <= (i : Int) := by omega
   have i1 : (i : Int) < (n : Int) := by omega
   obtain ⟨e0, e1⟩ := Za s.pk hx
   have ho1 := zh Ho1.out hb
   rcases ye ho1 with h0 | ⟨g1, o1, hA, hc⟩
   ·rw [h0] at e0; cases e0
   subst hA
   have d0 := hc _ _ e0
   have d1 := hc _ _ e1
   rw [<- Nat.add_assoc] at d1
   obtain ⟨W, hW⟩ : ∃ W, wr.alloc (.cells #[.int .i64 (x : Int), .int .i64 (s.pk x)] 75) = W := ⟨_, rfl⟩
   have hbW : Below wr.heap.size wr W := by rw [<- hW]; exact zg _ _
   have hrW : W.heap[wr.heap.size]? = some (.cells #[.int .i64 (x : Int), .int .i64 (s.pk x)] 75 (0, 0)) := by rw [<- hW]; exact heap_alloc_new _ _
   have f0 : W.cell? ⟨wr.heap.size, 0, none⟩ = some (.int .i64 (x : Int)) := zc hrW 0
   obtain ⟨Wb, hWb⟩ : ∃ Wb, W.alloc (.cells #[.int .i64 (x : Int)] 3) = Wb := ⟨_, rfl⟩
   have hbb : Below wr.heap.size wr Wb := by rw [<- hWb]; exact hbW.trans (((Below.refl _ _).alloc (Nat.le_refl _) _).mono hbW.size)
   have hsb : Seen Wb (some ⟨W.heap.size, 0, none⟩) [.int .i64 (x : Int)] := by rw [<- hWb]; exact Seen.of_cells (heap_alloc_new W _)
   have htk : l.take (i + 1) = l.take i ++ [x] := by
    obtain ⟨h1, h2⟩ := List.getElem?_eq_some_iff.1 hx
    rw [List.take_succ_eq_append_getElem h1, h2]
   have Ho := ihq (zh ho hbb); have Hb := ihq (hb.trans (hbb.mono hb.size)); have Hsb := ihq hsb; have Htk := ihq htk
   clear ho hb hbW hrW hbb hsb htk hx e0 e1 hc ho1
   go_wp2_with (at_builtin; refine ym rfl (.tmp 17) (.tmp 20) _ rfl 3 _ 8 Tryz.underlying28 zP rfl w2.heap.size A' i c' (zo (toI (l.take i))) rfl Ho.out (some ⟨W.heap.size, 0, none⟩) 1 1 [.int .i64 (x : Int)] rfl rfl Hsb.out (fun u hu => by simp at hu; subst hu; rfl) (by unfold maxLen; omega) (by omega) Hb.out.size ?_; intro A4 c4 w4 hown4 hg4 hbk4; have Hown4 := ihq hown4; have Hg4 := ihq hg4; clear hown4 hg4 hbk4)
   go_roundw
   case rel =>
    have tg : Turned (fun k => (Value.slice A' i c').ownBlock = some k) Wb w4 := Turned.of_grown Hg4.out fun k e => e
    refine ⟨i + 1, A4, c4, by omega, by go_num, rfl, ?_, Hb.out.trans (tg.below (fun k e => (Ho.out.lt k e).1) Hb.out.size)⟩
    rw [Htk.out, XO, zW]
    exact Hown4.out
   case measure => simp [intOf]; omega
  ·obtain rfl : i = n := by omega
   have i1 : ¬ (i : Int) < (i : Int) := by omega
   have hty : l.take i = l := List.take_of_length_le (by rw [Hn.out]; exact Nat.le_refl _)
   rw [hty] at ho
   have hm := Hm2.out.below hb
   have KSF := ihq (VSortFew w2.heap.size w.heap.size A' i c' L l wr Hn.out H16.out (by omega) ho hm)
   have Hb := ihq (Hb2.out.trans (hb.mono Hb2.out.size)); have Ho := ihq ho; have Hcap := ihq (yw ho)
   have hcap := (yw ho).1
   have hmax := (yw ho).2
   unfold maxLen at hmax
   clear ho hb hty hm
   have hmin : ∃ m : Nat, m = min copies i /\ min (copies : Int) (i : Int) = (m : Int) := ⟨min copies i, rfl, by omega⟩
   obtain ⟨m, hm1, hm2⟩ := hmin
   have hmi : m <= i := by omega
   have Hm1' := ihq hm1
   clear hm1
   have m0 : (0 : Int) <= (m : Int) := by omega
   have mc : (m : Int) <= (c' : Int) := by omega
   go_wp2_with (go_at_call 131; refine KSF.out.mono ?_; rintro e w5 ⟨rfl, hown5, ht5⟩; have Hown5 := ihq hown5; have Ht5 := ihq ht5; clear hown5 ht5)
   go_ret
   obtain ⟨st, hst⟩ : ∃ st, (l.mergeSort (yL fun i => L.count (i : Int))) = st := ⟨_, rfl⟩
   have hstl : st.length = i := by rw [<- hst, List.length_mergeSort, Hn.out]
   have hown := Hown5.out
   rw [hst] at hown
   have hf : fewF (fun i => L.count (i : Int)) l copies = st.take m := by
    unfold fewF
    rw [hst]
    by_cases hci : copies <= i
    ·rw [show m = copies by have := Hm1'.out; omega]
    ·rw [List.take_of_length_le (by omega), List.take_of_length_le (by have := Hm1'.out; omega)]
   have hs2 := Hb2.out.size
   refine ⟨⟨A', m, c'⟩, rfl, ⟨by rw [hf, xI, List.length_take]; simp only; omega, by simp only; omega, Hcap.out.2, ?_⟩, fun b o e => ?_, Hb.out.trans (Ht5.out.below (fun k e => Nat.le_trans hs2 (hown.lt k e).1) Hb.out.size)⟩
   ·have h1 := (yP.own hown).take m
    rw [hf, toI_take]
    have e1 : zo ((toI st).take m) = (zo (toI st)).take m := by simp [zo, List.map_take]
    rw [e1]
    exact h1
   ·simp only at e
    rcases hown.2 with ⟨hv, _⟩ | ⟨g', cap, cur, hv, hg, _⟩
    ·injection hv with h1 _ _
     rw [h1] at e
     cases e
    ·injection hv with h1 _ _
     rw [h1] at e
     injection e with e
     injection e with e
     omega
end Go.Proofs.YteebkolccbcehaaGreat
end
