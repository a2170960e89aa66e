/-
  Contracts of raft's handAll and advance of a node that is its only member. Conditions: such a node, with an entry of its own term behind all.
-/
import Derived.Test.YtdlgihgdpdiglaaGreatJRafC
import Derived.Test.YtdlgihgdpdiglaaGreatJQuoB
import Derived.Test.YtdlgihgdpdiglaaGreatJRlg
import Derived.Maps.RangeWalk
namespace Go.Proofs.YtdlgihgdpdiglaaGreat
open Go.ChangeShapes Go.WideShapes Go.ChangeAt Go.RowKit
set_option linter.unusedVariables false

theorem others_one (id : Int) : othersL [id] id = [] := by simp [othersL]
theorem right_one {id : Int} (h : 0 ≤ id ∧ id ≤ 15) : quo.RightQ [id] := by
  refine ⟨⟨by simp, by simp⟩, ?_, by simp⟩
  simp only [List.mem_cons, List.not_mem_nil, or_false, forall_eq]
  exact h
theorem idx_one {v x : Int} (h : quo.IsIdx [x] v) : v = x := by
  have h1 : ∀ u, quo.cntGe [x] u = if u ≤ x then 1 else 0 := fun u => by
    unfold quo.cntGe
    by_cases e : u ≤ x <;> simp [e]
  have a1 := (h v).1 (Int.le_refl _)
  have a2 := (h x).2 (by rw [h1, if_pos (Int.le_refl _)]; simp)
  rw [h1] at a1
  split at a1
  · omega
  · simp at a1
set_option maxRecDepth 100000 in
set_option maxHeartbeats 1000000 in
theorem NhandAll_one (B n : Nat) (a : Ad) (N : Nd) (w : World) (h : IsA w B n a N) (hm : N.mem = [N.id]) :
    Calls Tryz.prog 56 #[.pointer (some ⟨n, 0, none⟩)] w fun e w' => e = .returned (.tuple #[]) ∧ Below w.heap.size w w' := by
  have hmem := h.parts.mem
  rw [hm] at hmem
  have hl := hmem.len
  have KO := Lib.hid (Nothers n (N.c a) [N.id] w h.row hmem (by simp) (by show a.mem.n ≤ _; rw [← hl]; simp))
  rw [show othersL [N.id] (N.c a).id = [] from others_one N.id] at KO
  clear h hm hmem hl
  go_enter Tryz.func56, Tryz.ntmps56
  go_wp2_with fail
  refine KO.out.mono ?_
  rintro e w1 ⟨A, c, rfl, hown, hb⟩
  have Hb := Lib.hid hb
  rw [show (numsV ([] : List Int)).length = 0 from rfl]
  clear hown hb
  go_wp2
  go_loopw [7] (fun iv wr => iv = .int .i64 0 ∧ wr = w1) (fun _ _ => 0)
  case atStart => exact ⟨rfl, rfl⟩
  case round =>
    obtain ⟨rfl, hwr⟩ := hrel
    subst hwr
    go_wp2
    go_end0
    exact ⟨rfl, Hb.out⟩

/-! ### advance -/
theorem TermD (B g p : Nat) (q : Option Nat) (base term prev : Int) (x : List rl.Dat) (w : World) (h : rl.LogD w B g q base term x) (h0 : 0 ≤ base) (hp : p ≤ x.length) (hi : prev = base + p) (h3 : prev ≤ 9223372036854775807) (hl : x.length ≤ 1000000) :
    Calls Tryz.prog 81 #[.pointer (some ⟨g, 0, none⟩), .int .i64 prev] w fun e w' => e = .returned (.tuple #[.int .i64 (rl.termN term x p), .bool true]) ∧ Below w.heap.size w w' := by
  obtain ⟨X, rfl, h⟩ := h
  rw [List.length_map] at hp hl
  exact rl.Term_at B g p q base term prev X w h h0 hp hi h3 hl
theorem put_runF {w : World} {b n : Nat} {f : Int → Int} {k : Int} (val : Int) (h : quo.MapF w b n f) (h1 : -9223372036854775808 ≤ k) (h2 : k ≤ 9223372036854775807) (hl : n ≤ 1000000) :
    ∃ w', (Instr.mapUpdate 207 (.map (some b)) (.int .i64 k) (.int .i64 val)).run Tryz.prog w = .ok () w' ∧ quo.MapF w' b (n + 1) (quo.upd f k val) ∧ Turned (fun k => k = b) w w' := by
  obtain ⟨ks, F, p1, p2, p3⟩ := h
  obtain ⟨w', hrun, hown, ht⟩ := World.ownsMap.store p1 quo.keyed Tryz.underlying207 (show ks.length < maxLen by unfold maxLen; omega) (quo.key_of h1 h2) (val := .int .i64 val) (d := .held (.int .i64 val)) (ps := []) rfl
  rw [quo.intsD_put] at hown
  have hsz := quo.map_size hown
  rw [quo.intsD_size] at hsz
  exact ⟨w', hrun, quo.mapF_put hsz p2 p3, quo.turned_of_map ht⟩
attribute [local irreducible] wpQuiet
set_option maxRecDepth 100000 in
set_option maxHeartbeats 2000000 in
theorem Nadvance_one (B n L p : Nat) (a : Ad) (N : Nd) (w : World) (h : IsA w B n a N) (hm : N.mem = [N.id]) (hid : 0 ≤ N.id ∧ N.id ≤ 15) (hp : a.peers = some p) (hL : N.x.length = L) (hl : L ≤ 100000) (h0 : 0 ≤ N.si) (h3 : N.si ≤ 549755813888) (ht : rl.termN N.sn N.x L = N.te) (hc : N.com < N.si + L) :
    Calls Tryz.prog 83 #[.pointer (some ⟨n, 0, none⟩)] w fun e w' => e = .returned (.tuple #[]) ∧ MovE B n a a { N with com := N.si + L } w w' := by
  have H := Lib.hid h
  have hmm := @run_makeMap Tryz.prog
  obtain ⟨w1, hw1⟩ : ∃ w1, w.drew.alloc (.map #[] 0) = w1 := ⟨_, rfl⟩
  have hb1 : Below w.heap.size w w1 := by rw [← hw1]; exact ((Below.refl w.heap.size w).drew).alloc (Nat.le_refl _) _
  have hm1 : quo.MapF w1 w.heap.size 0 (fun _ => 0) := by rw [← hw1]; exact quo.MapF.made w.drew
  have c0 := h.row.c0; have c5 := h.row.c5
  unfold Nd.c at c0 c5
  simp only at c0 c5
  have KL := Lib.hid (fun W (hb : Below w.heap.size w W) => NlastOf B a.l L a.q N.si N.sn N.x W (h.parts.log.below hb) hL h0 (by omega) (by omega))
  have Hb1 := Lib.hid hb1; have Hm1 := Lib.hid hm1
  have hnl := h.row.lt
  have hll := (h.parts.log.block (.inl rfl)).2
  have Hid := Lib.hid hid
  have C1 := Lib.hid (show w1.cell? ⟨n, 0, none⟩ = some (.int .i64 N.id) ∧ w1.cell? ⟨n, 5, none⟩ = some (.pointer (some ⟨a.l, 0, none⟩)) from ⟨(h.row.below hb1).c0, (h.row.below hb1).c5⟩)
  obtain ⟨k0, k5⟩ := C1.out
  clear h hb1 hm1 hid
  go_enter Tryz.func83, Tryz.ntmps83
  go_upto_region 0 with fail
  go_cut [2] (fun mv wx => ∃ m, mv = .map (some m) ∧ w.heap.size ≤ m ∧ quo.MapF wx m 1 (quo.upd (fun _ => 0) N.id (N.si + L)) ∧ Below w.heap.size w wx)
  case first =>
    go_region_with (first
      | (go_at_call 76; (with_reducible refine (KL.out w1 Hb1.out).mono ?_); rintro e w2 ⟨rfl, hb2⟩; have B2 := Lib.hid (Hb1.out.trans (hb2.mono Hb1.out.size)); obtain ⟨w4, hins, hm4, ht4⟩ := put_runF (k := N.id) (N.si + L) (Hm1.out.turned (p := fun _ => False) (.of_below hb2) (fun e => e)) (by have := Hid.out; omega) (by have := Hid.out; omega) (by omega); have Hm4 := Lib.hid (show w.heap.size ≤ w.heap.size ∧ quo.MapF w4 w.heap.size 1 (quo.upd (fun _ => 0) N.id (N.si + L)) ∧ Below w.heap.size w w4 from ⟨Nat.le_refl _, hm4, B2.out.trans (ht4.below (fun k e => by omega) B2.out.size)⟩); have k0' : w2.cell? ⟨n, 0, none⟩ = some (.int .i64 N.id) := (H.out.row.below B2.out).c0; clear hb2 hm4 ht4)
      | (go_at_call 76; refine (KL.out _ (Below.refl w.heap.size w).drew).mono ?_; rintro e w2 ⟨rfl, hb2⟩; have B2 := Lib.hid ((Below.refl w.heap.size w).drew.trans hb2); obtain ⟨w3, hw3⟩ : ∃ w3, w2.alloc (.map #[] 0) = w3 := ⟨_, rfl⟩; have hm3 : quo.MapF w3 w2.heap.size 0 (fun _ => 0) := (by rw [← hw3]; exact quo.MapF.made w2); have b3 : Below w2.heap.size w2 w3 := (by rw [← hw3]; exact box_below _ _); obtain ⟨w4, hins, hm4, ht4⟩ := put_runF (k := N.id) (N.si + L) hm3 (by have := Hid.out; omega) (by have := Hid.out; omega) (by omega); have Hm4 := Lib.hid (show w.heap.size ≤ w2.heap.size ∧ quo.MapF w4 w2.heap.size 1 (quo.upd (fun _ => 0) N.id (N.si + L)) ∧ Below w.heap.size w w4 from ⟨B2.out.size, hm4, (B2.out.trans (b3.mono B2.out.size)).trans (ht4.below (fun k e => by have := B2.out.size; omega) (Nat.le_trans B2.out.size b3.size))⟩); have k0' : w2.cell? ⟨n, 0, none⟩ = some (.int .i64 N.id) := (H.out.row.below B2.out).c0; have k03 : w3.cell? ⟨n, 0, none⟩ = some (.int .i64 N.id) := ((H.out.row.below B2.out).below b3).c0; clear hb2 hm4 ht4 hm3 b3))
    all_goals
      go_wp2
      go_meet
      exact ⟨_, rfl, Hm4.out⟩
  case rest =>
    obtain ⟨m, rfl, hmw, hmap, hbc⟩ := hcut
    have Hmw := Lib.hid hmw; have Hmap := Lib.hid hmap; have Bc := Lib.hid hbc
    have Ac := Lib.hid (H.out.below hbc)
    have c22 := Ac.out.row.c22
    unfold Nd.c at c22
    simp only at c22
    rw [hp] at c22
    have Hemp := Lib.hid (Ac.out.parts.peers p hp).2.2
    clear hmw hmap hbc c0 c5 k0 k5 hw1
    go_wp2_with (first
      | (at_range; refine wpList_range_own _ rfl _ 98 rfl 3 209 keyed Tryz.underlying98 heldR p 0 _ rfl Hemp.out ?_; intro w5 hrg hg5 hs5; have Hrg := Lib.hid hrg; have Hg5 := Lib.hid hg5; clear hrg hg5 hs5))
    go_frame
    go_loopw [3] (fun _ wr => wr = w5) (fun _ _ => 0)
    case atStart => rfl
    case round =>
      subst hrel
      go_wp2_with (first
        | (at_next; refine wpList_next_ranges _ rfl _ rfl 3 keyed heldR (Value.int .i64) id (fun key kl hkey => by obtain ⟨x, rfl, _⟩ := Maps.keyOf_int_inv Tryz.underlying3 hkey; exact ⟨x, rfl⟩) (fun v y hv => ⟨v, rfl⟩) p wc.heap.size 0 _ _ _ rfl Hrg.out ?_ ?_))
      · intro _ _
        have b5 : Below wc.heap.size wc wr := ⟨Hg5.out.os, Hg5.out.tape, Hg5.out.output, Hg5.out.size, fun k hk => Hg5.out.block k hk (by simp)⟩
        have B5 := Lib.hid (Bc.out.trans (b5.mono Bc.out.size))
        have Hmap5 := Lib.hid (Hmap.out.turned (p := fun _ => False) (.of_below b5) (fun e => e))
        have A5 := Lib.hid (Ac.out.below b5)
        have c10 := A5.out.row.c10
        unfold Nd.c at c10
        simp only at c10
        have hmem := A5.out.parts.mem
        rw [hm] at hmem
        have KI := Lib.hid (quo.Index_any a.mem.A a.mem.n a.mem.c m 1 [N.id] (quo.upd (fun _ => 0) N.id (N.si + L)) wr hmem.len (by have := hmem.len; simp at this; unfold maxLen; omega) hmem.see Hmap5.out)
        clear b5 hmem c22
        go_wp2_with fail
        refine KI.out.mono ?_
        rintro e w6 ⟨v, rfl, hv1, -, hb6⟩
        have hv : v = N.si + (L : Int) := by
          have := idx_one (hv1 (right_one Hid.out))
          rw [this]
          simp [quo.upd]
        subst hv
        have A6 := Lib.hid (A5.out.below hb6)
        have B6 := Lib.hid (B5.out.trans (hb6.mono B5.out.size))
        have d5 := A6.out.row.c5
        unfold Nd.c at d5
        simp only at d5
        have KT := Lib.hid (TermD B a.l L a.q N.si N.sn (N.si + L) N.x w6 A6.out.parts.log h0 (by omega) rfl (by omega) (by omega))
        rw [ht] at KT
        clear hv1 hb6 c10
        go_wp2_with fail
        refine KT.out.mono ?_
        rintro e w7 ⟨rfl, hb7⟩
        have M7 := Lib.hid (MovE.of_below H.out (B6.out.trans (hb7.mono B6.out.size)))
        have c14 := M7.out.1.row.c14; have c3 := M7.out.1.row.c3; have z14 := M7.out.1.row.fr 14
        unfold Nd.c at c14 c3
        simp only at c14 c3
        have hcd : decide (N.com < N.si + (L : Int)) = true := decide_eq_true hc
        clear hb7 d5
        go_upto_region 9 with fail
        have hw8 := (WroteN.refl M7.out.1.row).set 14 (.int .i64 (N.si + (L : Int))) (c' := ({ N with com := N.si + (L : Int) } : Nd).c a) rfl
        change Code.wp _ _ _ _ (w7.setCell ⟨n, 14, none⟩ (.int .i64 (N.si + (L : Int))))
        obtain ⟨w8, hw8e⟩ : ∃ w8, w7.setCell ⟨n, 14, none⟩ (.int .i64 (N.si + (L : Int))) = w8 := ⟨_, rfl⟩
        rw [hw8e] at hw8 ⊢
        have p7 := M7.out.1.parts
        have M8 := Lib.hid (M7.out.wrote hw8 ⟨p7.vault, p7.log, p7.sm, p7.mem, p7.votes, p7.sslen, p7.ss, p7.peers⟩ (fun j e => .inl e) rfl rfl rfl)
        have hmem := M8.out.1.parts.mem
        rw [show ({ N with com := N.si + (L : Int) } : Nd).mem = [N.id] from hm] at hmem
        have hml := hmem.len
        have KM := Lib.hid (fun (q : BelowOf w8) => NisMember n _ [N.id] q.v (M8.out.1.row.below q.h) (hmem.below q.h) (by show a.mem.n ≤ _; rw [← hml]; simp))
        rw [show decide ((({ N with com := N.si + (L : Int) } : Nd).c a).id ∈ [N.id]) = true from by simp [Nd.c]] at KM
        clear hw8 hw8e p7 hmem hml c14 c3 z14
        refine wp_region_quiet_below (by kernel_rfl) (by kernel_rfl) ?_
        repeat (quiet_step (fail))
        quiet_step (exact Calls.below_of (KM.out _))
        repeat (quiet_step (fail))
        refine wpQuiet_nil ?_
        rintro _ ⟨⟨w9, hb9⟩, rfl⟩
        have Hb9 := Lib.hid hb9
        clear hb9
        go_wp2
        go_end0
        exact ⟨rfl, M8.out.below Hb9.out⟩
      · intro x c kl y ps w' cnt' hkey hleft
        have h2 : Maps.has (.map [] : DataW Value) kl = true := by assumption
        rw [Maps.has_eq] at h2
        simp at h2
end Go.Proofs.YtdlgihgdpdiglaaGreat
