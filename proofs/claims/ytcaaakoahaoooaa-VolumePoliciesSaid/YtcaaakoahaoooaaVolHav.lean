/-
  An array of sixteen numbers in memory; contract of volume's having: how many chunks each server has. Conditions: a state in memory, whose numbers are within bounds.
-/
import Derived.Test.YtcaaakoahaoooaaVolCat
namespace Go.Proofs.Ytcaaakoahaoooaa
open Go.ChangeShapes Go.WideShapes Go.ChangeAt Go.RowKit
set_option linter.unusedVariables false

/-- the array at g: how often each server stands in L -/
def ManyAt (w : World) (g : Nat) (L : List Int) : Prop := ∃ cs, w.heap[g]? = some (.cells cs 63 (0, 0)) ∧ cs.size = 16 ∧ ∀ i, i < 16 → cs[i]? = some (.int .i64 (L.count (i : Int) : Nat))
def z16 : Array Value := Array.replicate 16 (.int .i64 0)
def z16V : Value := .agg z16
theorem z16_run (w : World) : (zeroValue 63).run Try.prog w = .ok (.agg z16) w := (zero_of_info (n := 16) (v := z16V) (by kernel_rfl)).1 w
theorem ManyAt.new (w : World) : ManyAt (w.alloc (.cells z16 63)) w.heap.size [] :=
  ⟨z16, heap_alloc_new _ _, by simp [z16], fun i hi => by simp [z16, hi]⟩
theorem ManyAt.turned {p : Nat → Prop} {w w' : World} {g : Nat} {L : List Int} (h : ManyAt w g L) (ht : Turned p w w') (hp : ¬ p g) : ManyAt w' g L := by
  obtain ⟨cs, h1, h2⟩ := h
  exact ⟨cs, ht.heap h1 hp, h2⟩
theorem ManyAt.below {w w' : World} {g : Nat} {L : List Int} (h : ManyAt w g L) (hb : Below w.heap.size w w') : ManyAt w' g L := h.turned (p := fun _ => False) (.of_below hb) id
theorem ManyAt.cell {w : World} {g : Nat} {L : List Int} (h : ManyAt w g L) {i : Nat} (hi : i < 16) : w.cell? ⟨g, i, none⟩ = some (.int .i64 (L.count (i : Int) : Nat)) := by
  obtain ⟨cs, h1, h2, h3⟩ := h
  rw [row_cell h1 i]; exact h3 i hi
theorem ManyAt.thaw {w : World} {g : Nat} {L : List Int} (h : ManyAt w g L) (i : Nat) : w.frozen? ⟨g, i, none⟩ = false := by
  obtain ⟨cs, h1, h2, h3⟩ := h
  exact row_frozen h1 i
theorem ManyAt.lt {w : World} {g : Nat} {L : List Int} (h : ManyAt w g L) : g < w.heap.size := by
  obtain ⟨cs, h1, _⟩ := h
  exact (Array.getElem?_eq_some_iff.1 h1).1
/-- one more -/
theorem ManyAt.more {w : World} {g : Nat} {L : List Int} (h : ManyAt w g L) {k : Nat} (hk : k < 16) : ManyAt (w.setCell ⟨g, k, none⟩ (.int .i64 ((L.count (k : Int) : Nat) + 1 : Int))) g (L ++ [(k : Int)]) := by
  obtain ⟨cs, h1, h2, h3⟩ := h
  refine ⟨_, row_set h1 k _, by simpa using h2, fun i hi => ?_⟩
  rw [List.count_append]
  by_cases e : i = k
  · subst e
    rw [set_get_same (by omega)]
    simp
  · rw [set_get e, h3 i hi]
    have : ¬ ((k : Int) = (i : Int)) := by omega
    simp [this]
def manyL (L : List Int) : List Value := (List.range 16).map fun (i : Nat) => .int .i64 (L.count (i : Int) : Nat)
theorem manyL_get (L : List Int) {i : Nat} (hi : i < 16) : (manyL L)[i]? = some (.int .i64 (L.count (i : Int) : Nat)) := by
  unfold manyL
  rw [List.getElem?_map, List.getElem?_range hi]
  rfl
theorem manyL_length (L : List Int) : (manyL L).length = 16 := by simp [manyL]
/-- it, as a value -/
def manyA (L : List Int) : Array Value := (manyL L).toArray
theorem manyA_one (L : List Int) : (manyA L).all (·.oneCell') = true := by
  unfold manyA
  refine all_oneCell_toArray fun v hv => ?_
  simp only [manyL, List.mem_map] at hv
  obtain ⟨i, _, rfl⟩ := hv
  rfl
theorem manyA_at {w : World} {g : Nat} {L : List Int} (h : w.heap[g]? = some (.cells (manyA L) 63 (0, 0))) : ManyAt w g L :=
  ⟨_, h, by simp [manyA, manyL_length], fun i hi => by rw [manyA, List.getElem?_toArray]; exact manyL_get L hi⟩
theorem ldPk_many {w : World} {g : Nat} {L : List Int} (h : ManyAt w g L) : (ldPk (.pointer (some ⟨g, 0, none⟩))).run Try.prog w = .ok (.agg (manyA L)) w := by
  have hr : w.rangeAt g 0 (manyL L) := fun j v hv => by
    have hj : j < 16 := by have := (List.getElem?_eq_some_iff.1 hv).1; rwa [manyL_length] at this
    rw [manyL_get L hj] at hv
    rw [Nat.zero_add, h.cell hj]
    exact hv
  exact run_loadAt_mid w g 0 63 (manyL L) _ hr Try.underlying63 rfl (by rw [manyL_length]; exact pk_info)
def stPk (p v : Value) : Sem Unit := Instr.storeAt 63 p v
theorem stPk_eq (p v : Value) : Instr.storeAt 63 p v = stPk p v := rfl
theorem stPk_run {w : World} {g : Nat} {cs : Array Value} (h : w.heap[g]? = some (.cells cs 63 (0, 0))) (hs : cs.size = 16) (L : List Int) :
    ∃ w', (stPk (.pointer (some ⟨g, 0, none⟩)) (.agg (manyA L))).run Try.prog w = .ok () w' ∧ w'.heap[g]? = some (.cells (manyA L) 63 (0, 0)) ∧ Turned (fun k => k = g) w w' :=
  st_row (T := 63) h (by rw [hs]; simp [manyA, manyL_length]) (by rw [show (manyA L).size = 16 by simp [manyA, manyL_length]]; exact pk_info) (manyA_one L)

theorem flatK_take {l : List Chk} {j : Nat} {k : Chk} (h : l[j]? = some k) : flatK (l.take (j + 1)) = flatK (l.take j) ++ (k.ms ++ k.js) := by
  obtain ⟨hk, rfl⟩ := List.getElem?_eq_some_iff.1 h
  rw [List.take_succ_eq_append_getElem hk, flatK_append]
  simp [flatK]
theorem flatK_len {l : List Chk} (h : ∀ k ∈ l, ChkFit k) : (flatK l).length ≤ l.length * 32 := by
  induction l with
  | nil => simp [flatK]
  | cons k r ih =>
    have h1 := ih fun q hq => h q (List.mem_cons_of_mem _ hq)
    have h2 := h k (List.mem_cons_self ..)
    have h3 := h2.ml
    have h4 := h2.jl
    have e : flatK (k :: r) = (k.ms ++ k.js) ++ flatK r := by simp [flatK]
    rw [e, List.length_append, List.length_append, List.length_cons]
    omega
theorem allKs_fit {s : St} (h : StFit s) {n : Nat} (hn : n ≤ 64) : ∀ k ∈ allKs s n, ChkFit k := fun k hk => by
  obtain ⟨i, hi, hk⟩ := List.mem_flatMap.1 hk
  have := List.mem_range.1 hi
  exact (h.vs i (by omega)).ks k hk
attribute [local go_sem ↓] ldCk_eq
attribute [local go_sem ↓] stCk_eq
attribute [local go_sem ↓] ldPk_eq
attribute [local go_sem ↓] stPk_eq
set_option maxRecDepth 100000 in
set_option maxHeartbeats 4000000 in
theorem Vhaving (g : Nat) (s : St) (w : World) (h : StAt w g s) (hf : StFit s) :
    Calls Try.prog 92 #[.pointer (some ⟨g, 0, none⟩)] w fun e w' => e = .returned (.agg (manyA (flatK (allKs s 64)))) ∧ Below w.heap.size w w' := by
  have hz := z16_run
  obtain ⟨w1, hw1⟩ : ∃ w1, w.alloc (.cells z16 63) = w1 := ⟨_, rfl⟩
  have hb1 : Below w.heap.size w w1 := by rw [← hw1]; exact below_box _ _
  have hr1 : w1.heap[w.heap.size]? = some (.cells z16 63 (0, 0)) := by rw [← hw1]; exact heap_alloc_new _ _
  obtain ⟨w2, hw2⟩ : ∃ w2, w1.alloc (.cells z16 63) = w2 := ⟨_, rfl⟩
  have hb2 : Below w1.heap.size w1 w2 := by rw [← hw2]; exact below_box _ _
  have hm2 : ManyAt w2 w1.heap.size [] := by rw [← hw2]; exact ManyAt.new w1
  obtain ⟨cs, K, X, h⟩ := h
  have H := Lib.hid h; have Hf := Lib.hid hf; have Hr2 := Lib.hid (row_below hr1 hb2); have Hb2 := Lib.hid (hb1.trans (hb2.mono hb1.size)); have Hm2 := Lib.hid hm2
  have hs1 : w.heap.size < w1.heap.size := (Array.getElem?_eq_some_iff.1 hr1).1
  clear h hf hb1 hr1 hb2 hm2
  go_enter Try.func92, Try.ntmps92
  go_wp2
  go_loopw [9] (fun iv wr => ∃ i : Nat, i ≤ 64 ∧ iv = .int .i64 (i : Int) ∧ ManyAt wr w1.heap.size (flatK (allKs s i)) ∧ wr.heap[w.heap.size]? = some (.cells z16 63 (0, 0)) ∧ Below w.heap.size w wr) (fun iv _ => 64 - (intOf iv).toNat)
  case atStart => exact ⟨0, by omega, rfl, Hm2.out, Hr2.out, Hb2.out⟩
  case round =>
    obtain ⟨i, hin, rfl, hm, hr, hb⟩ := hrel
    obtain ⟨wo, hwo⟩ : ∃ wo : World, wo = wr := ⟨_, rfl⟩
    rw [← hwo] at hm hr hb ⊢
    clear hwo
    by_cases hi : i < 64
    · have ho := H.out.below hb
      have i0 : (0 : Int) ≤ (i : Int) := by omega
      have i1 : (i : Int) < 64 := by omega
      have c6 : wo.cell? ⟨g, 16 + i * 7 + 6, none⟩ = some (.slice (K i).A (K i).n (K i).c) := by rw [ho.cell]; exact ho.c6 i hi
      have hvf := Hf.out.vs i hi
      have hkl := hvf.kl
      have hlen := ho.len hi
      have hafl := flatK_len (allKs_fit Hf.out (n := i) (by omega))
      have hal := allKs_len Hf.out i (by omega)
      obtain ⟨L0, hL0⟩ : ∃ L0, allKs s i = L0 := ⟨_, rfl⟩
      rw [hL0] at hm hafl hal
      obtain ⟨ks, hks⟩ : ∃ ks, (s.vs i).ks = ks := ⟨_, rfl⟩
      rw [hks] at hlen hkl
      have Hks := Lib.hid hks; have HL0 := Lib.hid hL0; have Hvf := Lib.hid hvf; have Ho := Lib.hid ho; have Hb := Lib.hid hb; have Hm := Lib.hid hm; have Hr := Lib.hid hr; have Hlen := Lib.hid hlen
      have hn64 : (K i).n ≤ 64 := by omega
      obtain ⟨S, hS⟩ : ∃ S, K i = S := ⟨_, rfl⟩
      have HS := Lib.hid hS
      rw [hS] at c6 hn64 Hlen
      clear ho hb hm hr hlen hks hL0 hvf hS hkl
      obtain ⟨A0, n, c0⟩ := S
      simp only at c6 hn64 Hlen
      go_wp2
      go_loopw [20] (fun jv wr => ∃ j : Nat, j ≤ n ∧ jv = .int .i64 (j : Int) ∧ ManyAt wr w1.heap.size (flatK (L0 ++ ks.take j)) ∧ wr.heap[w.heap.size]? = some (.cells z16 63 (0, 0)) ∧ Below w.heap.size w wr) (fun jv _ => n - (intOf jv).toNat)
      case atStart => exact ⟨0, by omega, rfl, by simpa using Hm.out, Hr.out, Hb.out⟩
      case round =>
        obtain ⟨j, hjn, rfl, hm, hr, hb⟩ := hrel
        obtain ⟨wp, hwp⟩ : ∃ wp : World, wp = wr := ⟨_, rfl⟩
        rw [← hwp] at hm hr hb ⊢
        clear hwp
        by_cases hj : j < n
        · have j0 : (0 : Int) ≤ (j : Int) := by omega
          have j1 : (j : Int) < (n : Int) := by omega
          have ho := H.out.below hb
          have hkt := ho.ks i hi
          rw [HS.out] at hkt
          obtain ⟨k, hx⟩ : ∃ r, (X i)[j]? = some r := ⟨_, List.getElem?_eq_getElem (by have := hkt.len; simp only at this; omega)⟩
          obtain ⟨g1, o1, hA, hat⟩ := hkt.get hx
          simp only at hA
          subst hA
          have hld := ldCk_run hat
          have hok := hkt.ok k (List.mem_of_getElem? hx)
          have hkd : ks[j]? = some k.dat := by rw [← Hks.out, ← ho.dat i hi, List.getElem?_map, hx]; rfl
          have hcf := Hvf.out.ks k.dat (by rw [Hks.out]; exact List.mem_of_getElem? hkd)
          obtain ⟨wz, w4, hwz, hst9, hb4, hr4⟩ := ck_new wp k
          have d3 : w4.cell? ⟨wp.heap.size, 3, none⟩ = some (.slice k.m.A k.m.n k.m.c) := row_cell hr4 3
          have d4 : w4.cell? ⟨wp.heap.size, 4, none⟩ = some (.slice k.j.A k.j.n k.j.c) := row_cell hr4 4
          obtain ⟨w5, hw5⟩ : ∃ w5, w4.alloc (.cells #[.slice k.m.A k.m.n k.m.c, .slice k.j.A k.j.n k.j.c] 30) = w5 := ⟨_, rfl⟩
          have hb5 : Below w4.heap.size w4 w5 := by rw [← hw5]; exact below_box _ _
          have hr5 : w5.heap[w4.heap.size]? = some (.cells #[.slice k.m.A k.m.n k.m.c, .slice k.j.A k.j.n k.j.c] 30 (0, 0)) := by rw [← hw5]; exact heap_alloc_new _ _
          have hb45 := hb4.trans (hb5.mono hb4.size)
          have KC := Lib.hid (VConcat k.m k.j k.ms k.js w4.heap.size w5 (row_cell hr5 0) (row_cell hr5 1) (hok.m.below hb45) (hok.j.below hb45) (by have : k.ms.length ≤ 16 := hcf.ml; omega) (by have : k.js.length ≤ 16 := hcf.jl; omega))
          have hfl : flatK (ks.take (j + 1)) = flatK (ks.take j) ++ (k.ms ++ k.js) := flatK_take hkd
          have hin15 : ∀ x ∈ k.ms ++ k.js, 0 ≤ x ∧ x ≤ 15 := fun x hx => by
            rcases List.mem_append.1 hx with h | h
            · exact hcf.ms x h
            · exact hcf.js x h
          have hlen32 : (k.ms ++ k.js).length ≤ 32 := by rw [List.length_append]; have : k.ms.length ≤ 16 := hcf.ml; have : k.js.length ≤ 16 := hcf.jl; omega
          obtain ⟨us, hus⟩ : ∃ us, k.ms ++ k.js = us := ⟨_, rfl⟩
          rw [hus] at KC hfl hin15 hlen32
          obtain ⟨L1, hL1⟩ : ∃ L1, flatK (L0 ++ ks.take j) = L1 := ⟨_, rfl⟩
          have hL2 : flatK (L0 ++ ks.take (j + 1)) = L1 ++ us := by rw [flatK_append, hfl, ← List.append_assoc, ← flatK_append, hL1]
          have hL1l : L1.length ≤ 1000000 := by
            rw [← hL1, flatK_append, List.length_append]
            have h1 := flatK_len (l := ks.take j) (fun q hq => Hvf.out.ks q (by rw [Hks.out]; exact List.mem_of_mem_take hq))
            have h2 : (ks.take j).length ≤ 64 := by rw [List.length_take]; omega
            omega
          rw [hL1] at hm
          have Hm := Lib.hid (hm.below hb45); have Hr := Lib.hid (row_below hr hb45); have Hb := Lib.hid (hb.trans (hb45.mono hb.size)); have HL2 := Lib.hid hL2; have Hin := Lib.hid hin15
          clear hm hr hb hb45 hb4 hr4 hb5 hr5 hok hkd hcf hfl hus hL1 hL2 hin15 hkt hat hx ho
          go_wp2_with (go_at_call 101; refine KC.out.mono ?_; rintro e w6 ⟨S6, rfl, hown6, hb6⟩; have Hown6 := Lib.hid hown6; have Hb6 := Lib.hid hb6; clear hown6 hb6)
          have hlu : us.length = S6.n := by have := Hown6.out.1; rw [numsV_length] at this; omega
          have hs6 := Hb6.out.size
          have hm5 := Hm.out.lt
          have hne6 : ∀ b o, S6.A = some ⟨b, o, none⟩ → ¬ b = w1.heap.size := fun b o e hb => by
            rcases Hown6.out.2 with ⟨hv, _⟩ | ⟨g', cap, cur, hv, hg', hh, _⟩
            · injection hv with h1 _ _
              rw [h1] at e
              cases e
            · injection hv with h1 _ _
              rw [h1] at e
              injection e with e
              injection e with e
              omega
          have Hlu := Lib.hid hlu; have Hne6 := Lib.hid hne6
          have hm32 : S6.n ≤ 32 := by omega
          have hsee := Seen.of_own Hown6.out
          have Hsee := Lib.hid hsee
          have Hm6 := Lib.hid (Hm.out.below Hb6.out); have Hr6 := Lib.hid (row_below Hr.out Hb6.out); have Hbw6 := Lib.hid (Hb.out.trans (Hb6.out.mono Hb.out.size))
          clear hlu hne6 hsee
          obtain ⟨A6, m, c6'⟩ := S6
          simp only at Hlu Hne6 hm32 Hsee
          go_loopw [31] (fun qv wr => ∃ q : Nat, q ≤ m ∧ qv = .int .i64 (q : Int) ∧ ManyAt wr w1.heap.size (L1 ++ us.take q) ∧ Seen wr A6 (numsV us) ∧ wr.heap[w.heap.size]? = some (.cells z16 63 (0, 0)) ∧ Below w.heap.size w wr) (fun qv _ => m - (intOf qv).toNat)
          case atStart => exact ⟨0, by omega, rfl, by simpa using Hm6.out, Hsee.out, Hr6.out, Hbw6.out⟩
          case round =>
            obtain ⟨q, hqm, rfl, hm, hs, hr, hb⟩ := hrel
            by_cases hq : q < m
            · have q0 : (0 : Int) ≤ (q : Int) := by omega
              have q1 : (q : Int) < (m : Int) := by omega
              obtain ⟨gq, oq, x, hA, hx, hxc⟩ := hs.num (j := q) (by have := Hlu.out; omega)
              have hxi := Hin.out x (List.mem_of_getElem? hx)
              obtain ⟨y, rfl⟩ := Int.eq_ofNat_of_zero_le hxi.1
              have hy : y < 16 := by omega
              have y0 : (0 : Int) ≤ (y : Int) := by omega
              have y1 : (y : Int) < 16 := by omega
              have hmc := hm.cell hy
              have hmz := hm.thaw y
              have hmm := hm.more hy
              have hcnt : (L1 ++ us.take q).count (y : Int) ≤ 2000000 := by
                have h1 := List.count_le_length (l := L1 ++ us.take q) (a := (y : Int))
                rw [List.length_append, List.length_take] at h1
                omega
              obtain ⟨N, hN⟩ : ∃ N, (L1 ++ us.take q).count (y : Int) = N := ⟨_, rfl⟩
              rw [hN] at hmc hmm hcnt
              have htk : us.take (q + 1) = us.take q ++ [(y : Int)] := by
                obtain ⟨h1, h2⟩ := List.getElem?_eq_some_iff.1 hx
                rw [List.take_succ_eq_append_getElem h1, h2]
              have Htk := Lib.hid htk
              have ht : Turned (fun k => k = w1.heap.size) wr (wr.setCell ⟨w1.heap.size, y, none⟩ (.int .i64 ((N : Nat) + 1 : Int))) := (Turned.refl (fun k => k = w1.heap.size) wr).setCell (b := ⟨w1.heap.size, y, none⟩) (fun _ => rfl) _
              have hs2 := ht.seen hs (fun b o e => Hne6.out b o e)
              have hr2 := ht.heap hr (by omega)
              have hb2 := hb.trans (ht.below (fun k e => by omega) hb.size)
              have Hmm := Lib.hid hmm; have Hs2 := Lib.hid hs2; have Hrr := Lib.hid hr2; have Hbb := Lib.hid hb2
              clear htk ht hs2 hr2 hb2 hm hs hr hb hx hxi hN hmm
              subst hA
              go_wp2
              go_roundw
              case rel => exact ⟨q + 1, by omega, by go_num, by rw [Htk.out, ← List.append_assoc]; exact Hmm.out, Hs2.out, Hrr.out, Hbb.out⟩
              case measure => simp [intOf]; omega
            · obtain rfl : q = m := by omega
              have q1 : ¬ (q : Int) < (q : Int) := by omega
              have hty : us.take q = us := List.take_of_length_le (by rw [Hlu.out]; exact Nat.le_refl _)
              rw [hty, ← HL2.out] at hm
              have Hmf := Lib.hid hm; have Hrf := Lib.hid hr; have Hbf := Lib.hid hb
              clear hm hs hr hb hty
              go_wp2
              go_roundw
              case rel => exact ⟨j + 1, by omega, by go_num, Hmf.out, Hrf.out, Hbf.out⟩
              case measure => simp [intOf]; omega
        · obtain rfl : j = n := by omega
          have j1 : ¬ (j : Int) < (j : Int) := by omega
          have hty : ks.take j = ks := List.take_of_length_le (by have := Hlen.out; omega)
          have e1 : L0 ++ ks = allKs s (i + 1) := by rw [allKs_succ, HL0.out, Hks.out]
          rw [hty, e1] at hm
          have Hmf := Lib.hid hm; have Hrf := Lib.hid hr; have Hbf := Lib.hid hb
          clear hm hr hb hty e1
          go_wp2
          go_roundw
          case rel => exact ⟨i + 1, by omega, by go_num, Hmf.out, Hrf.out, Hbf.out⟩
          case measure => simp [intOf]; omega
    · obtain rfl : i = 64 := by omega
      have i1 : ¬ ((64 : Nat) : Int) < 64 := by omega
      have hld := ldPk_many hm
      obtain ⟨w9, hst, hr9, ht9⟩ := stPk_run hr (by simp [z16]) (flatK (allKs s 64))
      have Hr9 := Lib.hid hr9; have Ht9 := Lib.hid ht9; have Hb := Lib.hid hb
      clear hm hr hb hr9 ht9
      go_wp2
      refine bodyPost_ret (results_cell_row rfl _ _ w.heap.size 63 (manyA (flatK (allKs s 64))) (0, 0) _ rfl Hr9.out Try.underlying63 rfl (by rw [show (manyA (flatK (allKs s 64))).size = 16 by simp [manyA, manyL_length]]; exact pk_info)) rfl ⟨rfl, Hb.out.trans (Ht9.out.below (fun k e => by omega) Hb.out.size)⟩
end Go.Proofs.Ytcaaakoahaoooaa
