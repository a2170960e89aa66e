/-
  Contracts of the device's newest and Read. Conditions: a device, at most 1,000,000 writes that wait.
-/
import Derived.Test.YtjekcaoonaniaaaGreatSecB
import Derived.Deep.RegionHeld3
namespace Go.Proofs.YtjekcaoonaniaaaGreat
open Go.ChangeShapes Go.WideShapes Go.ChangeAt Go.RowKit Go.Shelf
set_option linter.unusedVariables false
attribute [local go_sem] Oper.semAt_some
attribute [local go_sem ↓] ldWr_eq stWr_eq ldArr_eq stArr_eq

/-- block B holds the cells cs -/
def Blk (W : World) (B : Nat) (t : TypeId) (cs : Array Value) : Prop := W.heap[B]? = some (.cells cs t (0, 0))
theorem Blk.lt {W : World} {B : Nat} {t : TypeId} {cs : Array Value} (h : Blk W B t cs) : B < W.heap.size := (Array.getElem?_eq_some_iff.1 h).1
theorem Blk.alloc {W : World} {B : Nat} {t : TypeId} {cs : Array Value} (h : Blk W B t cs) (o : Obj) : Blk (W.alloc o) B t cs := (Below.heap_alloc _ _ _ h.lt).trans h
theorem Blk.new (W : World) (t : TypeId) (cs : Array Value) : Blk (W.alloc (.cells cs t)) W.heap.size t cs := heap_alloc_new W _
theorem blk_own {β : Type} (B : Nat) (t : TypeId) (f : β → Array Value) : Own (fun s W => Blk W B t (f s)) := fun s X Y row hs hg hrow => by
  have hne : some B ≠ row := fun e' => by
    obtain ⟨o, ho, hc⟩ := hrow B e'.symm
    rw [show X.heap[B]? = _ from hs] at ho
    cases ho
    cases hc
  exact (hg.block B (Blk.lt hs) hne).trans hs

/-- the writes from behind -/
def revW (L : List (Nat × List UInt8)) (h : ∀ p ∈ L, p.2.length = 64) (k : Nat) : NW :=
  if hk : k < L.length then ⟨(L.length - 1 - k, L[L.length - 1 - k]'(by omega)), h _ (List.getElem_mem _)⟩ else ⟨(0, 0, List.replicate 64 0), by simp⟩
theorem revW_at {L : List (Nat × List UInt8)} {h : ∀ p ∈ L, p.2.length = 64} {k i : Nat} (hk : L.length = k + 1 + i) : (revW L h k).1.1 = i ∧ L[i]? = some (revW L h k).1.2 := by
  unfold revW
  rw [dif_pos (by omega)]
  have e : L.length - 1 - k = i := by omega
  simp only [e]
  exact ⟨trivial, List.getElem?_eq_getElem (by omega)⟩
theorem revW_all {L : List (Nat × List UInt8)} (h : ∀ p ∈ L, p.2.length = 64) : L.reverse = (upto (revW L h) L.length).map (fun x => x.1.2) := by
  apply List.ext_getElem?
  intro k
  by_cases hk : k < L.length
  · rw [List.getElem?_reverse hk]
    have := (revW_at (L := L) (h := h) (k := k) (i := L.length - 1 - k) (by omega)).2
    rw [this]
    simp [upto, hk]
  · rw [List.getElem?_eq_none (by simp; omega), List.getElem?_eq_none (by simp [upto]; omega)]
theorem newest_none {L : List (Nat × List UInt8)} (h : ∀ p ∈ L, p.2.length = 64) {S : List UInt8} {i : Nat} (hn : ∀ x ∈ upto (revW L h) L.length, x.1.2.1 ≠ i) : newest L S i = sec S i := by
  unfold newest
  rw [revW_all h, List.find?_eq_none.2]
  intro p hp
  simp only [List.mem_map] at hp
  obtain ⟨x, hx, rfl⟩ := hp
  simp only [beq_iff_eq]
  exact hn x hx
theorem upto_split {α : Type} (f : Nat → α) {k n : Nat} (hk : k ≤ n) : ∃ r, upto f n = upto f k ++ r := by
  induction n with
  | zero => exact ⟨[], by rw [show k = 0 by omega]; simp⟩
  | succ n ih =>
    by_cases h : k = n + 1
    · exact ⟨[], by rw [h]; simp⟩
    · obtain ⟨r, hr⟩ := ih (by omega)
      exact ⟨r ++ [f n], by rw [upto_succ, hr, List.append_assoc]⟩
theorem newest_some {L : List (Nat × List UInt8)} (h : ∀ p ∈ L, p.2.length = 64) {S : List UInt8} {i k : Nat} {pre : List NW} {x : NW} (hk : k < L.length) (he : upto (revW L h) (k + 1) = pre ++ [x]) (hn : ∀ x ∈ pre, x.1.2.1 ≠ i) (hx : x.1.2.1 = i) : newest L S i = x.1.2.2 := by
  unfold newest
  obtain ⟨r, hr⟩ := upto_split (revW L h) (show k + 1 ≤ L.length by omega)
  rw [revW_all h, hr, he, List.map_append, List.map_append, List.append_assoc, List.find?_append, List.find?_eq_none.2]
  · simp [hx]
  · intro p hp
    simp only [List.mem_map] at hp
    obtain ⟨x, hx, rfl⟩ := hp
    simp only [beq_iff_eq]
    exact hn x hx

set_option maxRecDepth 100000 in
set_option maxHeartbeats 4000000 in
theorem newest_any (B g s : Nat) (r : Option Nat) (d : Dv) (i : Nat) (w : World) (h : IsD w B g s r d) (hL : d.L.length ≤ 1000000) (hi : i < d.n) :
    Calls Tryz.prog 50 #[.pointer (some ⟨g, 0, none⟩), .int .i64 i] w fun e w' => e = .returned (.agg (bytesV (newest d.L d.S i)).toArray) ∧ Below w.heap.size w w' := by
  refine (callsIn_wide (n := 9)).1 ?_
  have hlt := h.lt
  have H := Lib.hid h
  obtain ⟨hok, hBg, hBs, hgs, hrg, hrs, hS, A, c, hh, hown, hr⟩ := h
  have c1 : w.cell? ⟨g, 1, none⟩ = some (.slice A d.L.length c) := row_cell hh 1
  have c0 : w.cell? ⟨g, 0, none⟩ = some (.slice (some ⟨s, 0, none⟩) d.n d.n) := row_cell hh 0
  have hgl : g < w.heap.size := hlt.1
  have hZ := za_run
  have Hok := Lib.hid hok; have HS := Lib.hid hS; have Hh := Lib.hid hh; have Hown := Lib.hid hown; have Hr := Lib.hid hr; have Hlt := Lib.hid hlt
  clear hok hS hh hown hr hgs hrg hrs hlt
  refine callsIn_of_wp_marks Tryz.func50 rfl trivial ?_ rfl
  simp only [Tryz.ntmps50, List.size_toArray, List.length_cons, List.length_nil, Nat.reduceAdd, Nat.reduceSub, Array.replicate_succ, Array.replicate_zero, List.push_toArray, List.append_toArray, List.nil_append, List.cons_append]
  gi_wp2_with (refine ⟨trivial, ?_⟩; gi_at_call 76; refine (backward_in Fence.wide _ trivial rfl _ _ _ _).mono ?_; rintro e w' ⟨rfl, rfl⟩)
  have hZ2 := zw_run
  have bI := ((Blk.new w 3 #[.int .i64 i]).alloc (.cells za 94)).alloc (.cells #[.slice A d.L.length c] 52)
  have bR := (Blk.new (w.alloc (.cells #[.int .i64 i] 3)) 94 za).alloc (.cells #[.slice A d.L.length c] 52)
  have bS := Blk.new ((w.alloc (.cells #[.int .i64 i] 3)).alloc (.cells za 94)) 52 #[.slice A d.L.length c]
  simp only [World.size_alloc] at bR bS
  have hB0 : Below w.heap.size w (((w.alloc (.cells #[.int .i64 i] 3)).alloc (.cells za 94)).alloc (.cells #[.slice A d.L.length c] 52)) := (((Below.refl _ w).alloc (Nat.le_refl _) _).alloc (by simp) _).alloc (by simp; omega) _
  have hsz : (((w.alloc (.cells #[.int .i64 i] 3)).alloc (.cells za 94)).alloc (.cells #[.slice A d.L.length c] 52)).heap.size = w.heap.size + 3 := by simp
  obtain ⟨W0, hW0⟩ : ∃ W0, (((w.alloc (.cells #[.int .i64 i] 3)).alloc (.cells za 94)).alloc (.cells #[.slice A d.L.length c] 52)) = W0 := ⟨_, rfl⟩
  rw [hW0] at bI bR bS hB0 hsz ⊢
  clear hW0
  have hL64 : ∀ p ∈ d.L, p.2.length = 64 := fun p hp => (Hok.out.L p hp).2
  -- the row of the writes
  have hrow : ∃ b, b < w.heap.size ∧ (0 < d.L.length → A = some ⟨b, 0, none⟩) ∧ ∀ k i, d.L.length = k + 1 + i → W0.rangeAt b (i * 65) (wcell (revW d.L hL64 k).1.2) := by
    by_cases h0 : d.L.length = 0
    · exact ⟨g, hgl, fun h => by omega, fun k i h => by omega⟩
    · obtain ⟨p0, hp0⟩ : ∃ p, d.L[0]? = some p := ⟨_, List.getElem?_eq_getElem (by omega)⟩
      obtain ⟨b, hA, _⟩ := wait_at Hown.out hL64 rfl hp0
      have hbl : b < w.heap.size := (Hlt.out.2.2.2.2 b (by rw [← Hr.out, hA]; rfl)).2
      refine ⟨b, hbl, fun _ => hA, fun k i hk j v hv => ?_⟩
      obtain ⟨b2, hA2, hra⟩ := wait_at Hown.out hL64 rfl (revW_at (h := hL64) hk).2
      rw [hA] at hA2
      obtain rfl : b = b2 := by simpa using hA2
      rw [hB0.cell (p := ⟨b, i * 65 + j, none⟩) hbl, Nat.mul_comm i]
      exact hra j v hv
  obtain ⟨b, hbl, hAb, hrows⟩ := hrow
  have hlen := hL
  refine wpIn_rangeFunc_ownH (F := Fence.wide) rfl (by omega) (gf := 87) (lb := #[.pointer (some ⟨w.heap.size + 1 + 1, 0, none⟩)]) rfl trivial (enters_of Tryz.func87 (by kernel_rfl) rfl)
    (backward_stops Fence.wide _ trivial rfl (by omega) (w.heap.size + 1 + 1) W0.heap.size b d.L.length c A hlen (by omega) hAb (revW d.L hL64) (fun k i hk => (revW_at hk).1) W0 (by omega) (Nat.le_refl _) (by exact row_cell bS 0) hrows) belowK_t (belowK_b (Nat.le_refl _)) (Below.refl _ _) (fun _ => rfl)
    (fun pre W => (∀ x ∈ pre, x.1.2.1 ≠ i) ∧ Below W0.heap.size W0 W)
    (fun c pre W => (c = .ret ∧ ∃ x pre0, pre = pre0 ++ [x] ∧ (∀ y ∈ pre0, y.1.2.1 ≠ i) ∧ x.1.2.1 = i ∧ Blk W (w.heap.size + 1) 94 (bytesV x.1.2.2).toArray) ∧ Below w.heap.size w W)
    (OwnFrom.and (ownFrom_pure _ _) (ownFrom_below (Nat.le_refl _) (Nat.le_refl _)))
    (fun c => OwnFrom.and (fun pre X Y row hs hg hr => by
        obtain ⟨h1, x, pre0, h2, h3, h4, h5⟩ := hs
        exact ⟨h1, x, pre0, h2, h3, h4, blk_own (β := Unit) (w.heap.size + 1) 94 (fun _ => (bytesV x.1.2.2).toArray) () X Y row h5 hg (fun r e => (hr r e).2)⟩) (ownFrom_below (Nat.le_refl _) (by omega)))
    ⟨fun x hx => by simp at hx, Below.refl _ _⟩
    (fun x a' W => ∃ Bx, W0.heap.size ≤ Bx ∧ Blk W Bx 96 (wArr x.1.2) ∧ a' = { tmps := #[.pointer (some ⟨g, 0, none⟩), .int .i64 i, undef, .pointer (some ⟨w.heap.size, 0, none⟩), .pointer (some ⟨w.heap.size + 1, 0, none⟩), undef, .pointer (some ⟨Bx, 0, none⟩), .pointer (some ⟨g, 0, none⟩), .pointer (some ⟨g, 0, none⟩), .pointer (some ⟨g, 1, none⟩), .slice A d.L.length c, .func (.func 87) #[] #[.pointer (some ⟨w.heap.size + 1 + 1, 0, none⟩)], .int .i64 (x.1.1 : Int), .agg (wArr x.1.2), undef, undef, undef, undef, undef, undef, undef, undef, undef, undef, undef, undef, undef], defers := [] })
    (fun x a' _ X Y row hs hg hr => by obtain ⟨Bx, h1, h2, h3⟩ := hs; exact ⟨Bx, h1, blk_own Bx 96 (fun (_ : Unit) => wArr x.1.2) () X Y row h2 hg (fun r e => (hr r e).2), h3⟩)
    ?assign ?body ?done ?stop
  case assign =>
    rintro l pre x W K ⟨hn, hB⟩ hK
    have hst := stWr_run W zw (wArr x.1.2) zw_size wArr_size (all_oneCell_toArray (wcell_one x.1.2))
    unfold encW
    gi_wp2
    exact hK _ _ ((KeepsOthers.alloc _ _).from _) ((Below.refl _ W).alloc hB.size _) ⟨hn, hB.alloc hB.size _⟩ ⟨W.heap.size, hB.size, Blk.new W _ _, rfl⟩
  case body =>
    rintro l pre x a' W hl ⟨rr, hrr⟩ ⟨hn, hB⟩ ⟨Bx, hBx, bX, rfl⟩ hlt
    have bI1 : Blk W w.heap.size 3 #[.int .i64 i] := (hB.block _ bI.lt).trans bI
    have bR1 : Blk W (w.heap.size + 1) 94 za := (hB.block _ bR.lt).trans bR
    have cI := row_cell bI1 0
    simp at cI
    have cX : W.cell? ⟨Bx, 0, none⟩ = some (.int .i64 (x.1.2.1 : Int)) := row_cell bX 0
    have hB1 : Below w.heap.size w W := hB0.trans (hB.mono (by omega))
    by_cases hx : x.1.2.1 = i
    · have hq : ((x.1.2.1 : Int) == (i : Int)) = true := by rw [hx]; exact beq_self_eq_true _
      have hra : W.rangeAt Bx 1 (bytesV x.1.2.2) := fun j v hv => by
        rw [row_cell bX (1 + j), wArr, Nat.add_comm]
        simpa [wcell] using hv
      have hld := ldArr_run hra x.2
      have hst := stArr_run bR1 za_size (cs' := (bytesV x.1.2.2).toArray) (by simp [bytes_length, x.2]) (all_oneCell_toArray (bytes_one _))
      have Hx := Lib.hid hx; clear hx
      gi_wp2
      exact ⟨KeepsFrom.of_grownBy (row := some (w.heap.size + 1)) ⟨rfl, rfl, rfl, by simp, fun k _ hk => setRow_other W _ k _ (fun e => hk (by rw [e]))⟩ (fun j e => by cases e; omega),
        ⟨rfl, x, pre, rfl, hn, Hx.out, setRow_heap W _ _ _ _ _ bR1⟩, below_setRow hB1 (by omega) _⟩
    · have hq : ((x.1.2.1 : Int) == (i : Int)) = false := by rw [beq_eq_false_iff_ne]; omega
      have Hx := Lib.hid hx; clear hx
      gi_wp2
      exact ⟨KeepsFrom.refl _ _, Below.refl _ _, fun y hy => by
        simp only [List.mem_append, List.mem_singleton] at hy
        rcases hy with hy | rfl
        · exact hn y hy
        · exact Hx.out, hB⟩
  case done =>
    rintro D zs W hD rfl ⟨hn, hB⟩ hK
    have hnew := newest_none hL64 (S := d.S) hn
    have bI1 : Blk W w.heap.size 3 #[.int .i64 i] := (hB.block _ bI.lt).trans bI
    have bR1 : Blk W (w.heap.size + 1) 94 za := (hB.block _ bR.lt).trans bR
    have hB1 : Below w.heap.size w W := hB0.trans (hB.mono (by omega))
    have cI := row_cell bI1 0
    simp at cI
    have g0 : W.cell? ⟨g, 0, none⟩ = some (.slice (some ⟨s, 0, none⟩) d.n d.n) := by rw [hB1.cell (p := ⟨g, 0, none⟩) hgl]; exact c0
    have hra : W.rangeAt s (i * 64) (bytesV (sec d.S i)) := fun j v hv => by
      rw [hB1.cell (p := ⟨s, i * 64 + j, none⟩) Hlt.out.2.1, row_cell HS.out (i * 64 + j)]
      rw [bytesV, List.getElem?_map] at hv
      cases hx : (sec d.S i)[j]? with
      | none => rw [hx] at hv; cases hv
      | some x =>
        rw [hx] at hv
        have h2 := sec_at hx
        rw [Nat.mul_comm 64] at h2
        simp only [bytesV, List.getElem?_toArray, List.getElem?_map, h2]
        exact hv
    have hs64 : (sec d.S i).length = 64 := sec_length Hok.out.S hi
    have hld := ldArr_run hra hs64
    have hld2 := ldArr_run (w := W.drew) hra hs64
    have hst := stArr_run (w := W.drew) bR1 za_size (cs' := (bytesV (sec d.S i)).toArray) (by simp [bytes_length, hs64]) (all_oneCell_toArray (bytes_one _))
    have i0 : (0 : Int) ≤ (i : Int) := by omega
    have i1 : (i : Int) < (d.n : Int) := by omega
    have HK := Lib.hid hK; clear hK
    gi_wp2
    refine wpIn_wide.2 ?_
    go_still_tail 7, (by kernel_rfl)
    change wpList _ _ _ _ _ W.drew
    go_wp2
    change Code.wpIn Fence.wide 9 Tryz.prog Code.ret _ _ _
    gi_wp2
    refine ⟨by simp, .inl ⟨_, _, rfl, run_takeDeferred (b := D) (w := W.drew.setRow (w.heap.size + 1) (bytesV (sec d.S i)).toArray) ((setRow_other _ _ _ _ (by omega)).trans HK.out), ?_⟩⟩
    have bR2 : (W.drew.setRow (w.heap.size + 1) (bytesV (sec d.S i)).toArray).heap[w.heap.size + 1]? = some (.cells (bytesV (sec d.S i)).toArray 94 (0, 0)) := setRow_heap W.drew _ _ _ _ _ bR1
    rw [hnew]
    refine ⟨_, results_cell_row rfl _ _ _ _ _ _ _ rfl ((World.putObj_heap_other (by omega)).trans bR2) arr_und rfl (by rw [arr_size]; simp [bytes_length, hs64]), rfl, ?_⟩
    exact (below_setRow hB1.drew (by omega) _).trans (belowK_b (w := w) (Nat.le_refl _) _ D _ _ (by omega) ((setRow_other _ _ _ _ (by omega)).trans HK.out) rfl rfl)
  case stop =>
    rintro D c pre W hD ⟨k, hk, hp⟩ ⟨⟨rfl, x, pre0, hp2, hn, hx, bX⟩, hB⟩ hK
    subst hp2
    have hnew := newest_some hL64 (S := d.S) hk hp.symm hn hx
    gi_wp2
    refine ⟨by simp, .inl ⟨_, _, rfl, run_takeDeferred hK, ?_⟩⟩
    rw [hnew]
    refine ⟨_, results_cell_row rfl _ _ _ _ _ _ _ rfl ((World.putObj_heap_other (by omega)).trans bX) arr_und rfl (by rw [arr_size]; simp [bytes_length, x.2]), rfl, ?_⟩
    exact hB.trans (belowK_b (w := w) (Nat.le_refl _) W D _ _ (by omega) hK rfl rfl)

theorem Read_down (B g s : Nat) (r : Option Nat) (d : Dv) (i : Int) (w : World) (h : IsD w B g s r d) (hd : d.down = true) :
    Calls Tryz.prog 31 #[.pointer (some ⟨g, 0, none⟩), .int .i64 i] w fun e w' => e = .returned (.tuple #[.slice none 0 0, .int .i64 17]) ∧ w = w' := by
  obtain ⟨hok, hBg, hBs, hgs, hrg, hrs, hS, A, c, hh, hown, hr⟩ := h
  have c3 : w.cell? ⟨g, 3, none⟩ = some (.bool d.down) := row_cell hh 3
  rw [hd] at c3
  clear hS hown hr hh hok
  go_enter Tryz.func31, Tryz.ntmps31
  go_wp2
  go_ret2
  exact ⟨rfl, rfl⟩

theorem Read_arg (B g s : Nat) (r : Option Nat) (d : Dv) (i : Int) (w : World) (h : IsD w B g s r d) (hd : d.down = false) (hi : d.has i = false) :
    Calls Tryz.prog 31 #[.pointer (some ⟨g, 0, none⟩), .int .i64 i] w fun e w' => e = .returned (.tuple #[.slice none 0 0, .int .i64 1]) ∧ w = w' := by
  have H := Lib.hid h
  have Hi := Lib.hid hi; clear hi
  obtain ⟨hok, hBg, hBs, hgs, hrg, hrs, hS, A, c, hh, hown, hr⟩ := h
  have c3 : w.cell? ⟨g, 3, none⟩ = some (.bool d.down) := row_cell hh 3
  rw [hd] at c3
  clear hS hown hr hh hok
  go_enter Tryz.func31, Tryz.ntmps31
  go_wp2_with (go_at_call 49; refine (has_any B g s r d i _ H.out).mono ?_; rw [Hi.out]; rintro e w2 ⟨rfl, rfl⟩)
  go_ret2
  exact ⟨rfl, rfl⟩

theorem Read_any (B g s : Nat) (r : Option Nat) (d : Dv) (i : Nat) (w : World) (h : IsD w B g s r d) (hL : d.L.length ≤ 1000000) (hd : d.down = false) (hi : i < d.n) :
    Calls Tryz.prog 31 #[.pointer (some ⟨g, 0, none⟩), .int .i64 i] w fun e w' => ∃ b, e = .returned (.tuple #[.slice (some ⟨b, 0, none⟩) 64 64, .int .i64 0]) ∧ w.heap.size ≤ b ∧ Blk w' b 94 (bytesV (newest d.L d.S i)).toArray ∧ Below w.heap.size w w' := by
  have H := Lib.hid h
  have hhas : d.has i = true := by unfold Dv.has; rw [decide_eq_true_iff]; omega
  have Hhas := Lib.hid hhas; clear hhas
  have h64 : (newest d.L d.S i).length = 64 := newest_length h.ok.S h.ok.L hi
  obtain ⟨hok, hBg, hBs, hgs, hrg, hrs, hS, A, c, hh, hown, hr⟩ := h
  have c3 : w.cell? ⟨g, 3, none⟩ = some (.bool d.down) := row_cell hh 3
  rw [hd] at c3
  clear hS hown hr hh hok
  obtain ⟨arr, harr⟩ : ∃ arr, (bytesV (newest d.L d.S i)).toArray = arr := ⟨_, rfl⟩
  have hsz : arr.size = 64 := by rw [← harr]; simp [bytes_length, h64]
  have h1 : arr.all (·.oneCell') = true := by rw [← harr]; exact all_oneCell_toArray (bytes_one _)
  rw [harr]
  have hst : ∀ w1 : World, (stArr (.pointer (some ⟨w1.heap.size, 0, none⟩)) (.agg arr)).run Tryz.prog (w1.alloc (.cells za 94)) = .ok () (w1.alloc (.cells arr 94)) := fun w1 =>
    run_storeAt_new w1 _ za arr (by rw [arr_size, hsz]) (by rw [za_size, hsz]) h1
  have hZ := za_run
  have Harr := Lib.hid harr; clear harr h1 hsz h64
  go_enter Tryz.func31, Tryz.ntmps31
  go_wp2_with (first | (go_at_call 49; refine (has_any B g s r d i _ H.out).mono ?_; rw [Hhas.out]; rintro e w2 ⟨rfl, rfl⟩) | (go_at_call 50; refine (newest_any B g s r d i _ H.out hL hi).mono ?_; rw [Harr.out]; rintro e w1 ⟨rfl, hb1⟩; have Hb1 := Lib.hid hb1; clear hb1))
  go_ret2
  exact ⟨w1.heap.size, rfl, Hb1.out.size, Blk.new w1 _ _, Hb1.out.alloc Hb1.out.size _⟩
theorem Blk.seen {w : World} {b : Nat} {t : TypeId} {bs : List UInt8} (h : Blk w b t (bytesV bs).toArray) : Seen w (some ⟨b, 0, none⟩) (bytesV bs) := by
  have := Seen.of_cells (w := w) (g := b) (t := t) (fr := (0, 0)) h
  simpa using this
theorem Blk.below {w w' : World} {b : Nat} {t : TypeId} {cs : Array Value} (h : Blk w b t cs) (hb : Below w.heap.size w w') : Blk w' b t cs := (hb.block b h.lt).trans h
end Go.Proofs.YtjekcaoonaniaaaGreat
