/-
  dotterelref12's Pick: what it hands back. Conditions: what the slice reads as, how many it is at most, and numbers that an int holds. (Written by gen_plypick.py.)
-/
import Derived.Test.YtbfjakchgmdldaaGreatPlyPush
import Derived.Test.YtbfjakchgmdldaaGreatPlyMath
import Derived.Test.YtbfjakchgmdldaaGreatSchTake
import Derived.Test.YtbfjakchgmdldaaGreatClkL
import Derived.Test.YtbfjakchgmdldaaGreatClkR
import Derived.Test.YtbfjakchgmdldaaGreatQuietB
import Derived.Deep.RegionWith
import Derived.Deep.DeepCutAuto
namespace Go.Proofs.YtbfjakchgmdldaaGreat
open Go.ChangeShapes Go.WideShapes Go.ChangeAt Go.RowKit
set_option linter.unusedVariables false

theorem rf_at {w : World} {ga o : Nat} {y : List RF} (h : Seen w (some ⟨ga, o, none⟩) (rfsV y)) {i : Nat} {r : RF} (hi : y[i]? = some r) : ∀ (j : Nat) v, (rfV r)[j]? = some v → w.cell? ⟨ga, o + i * 10 + j, none⟩ = some v := by
  obtain ⟨g', o', hA, hc⟩ := h.rf hi
  injection hA with hA
  injection hA with e1 e2
  subst e1; subst e2
  exact hc
theorem rf_ldPol {w : World} {g o : Nat} {r : RF} (h : ∀ (j : Nat) v, (rfV r)[j]? = some v → w.cell? ⟨g, o + j, none⟩ = some v) (hp : InP r.f.p) : (ldPol (.pointer (some ⟨g, o + 2, none⟩))).run Tryz.prog w = .ok (.agg #[.int .i64 r.f.p.re, .int .i64 r.f.p.we, .int .i64 r.f.p.li, .int .i64 r.f.p.bu]) w :=
  ldPol_run ⟨h 2 _ rfl, h 3 _ rfl, h 4 _ rfl, h 5 _ rfl, hp⟩
theorem rf_ldClk {w : World} {g o : Nat} {r : RF} (h : ∀ (j : Nat) v, (rfV r)[j]? = some v → w.cell? ⟨g, o + j, none⟩ = some v) : (ldClk (.pointer (some ⟨g, o + 6, none⟩))).run Tryz.prog w = .ok (.agg #[.int .i64 r.f.c.r, .int .i64 r.f.c.p, .int .i64 r.f.c.l]) w := by
  have hr : w.rangeAt g (o + 6) [.int .i64 r.f.c.r, .int .i64 r.f.c.p, .int .i64 r.f.c.l] := fun j v hv => by
    match j, hv with
    | 0, hv => simp at hv; subst hv; exact h 6 _ rfl
    | 1, hv => simp at hv; subst hv; exact h 7 _ rfl
    | 2, hv => simp at hv; subst hv; exact h 8 _ rfl
  exact run_loadAt_mid w g (o + 6) 46 [.int .i64 r.f.c.r, .int .i64 r.f.c.p, .int .i64 r.f.c.l] _ hr Tryz.underlying46 rfl clk_info
/-- what ref's Pick makes of the list -/
def PickY (y : List RF) (now : Int) (w' : World) (id : Int) (it : Itm) (ph : Int) (y' : List RF) : Prop :=
  (ph = 0 ∧ id = 0 ∧ it = ⟨0, 0, 0⟩ ∧ y' = y ∧ (∀ r ∈ y, ¬ dueY (atF now) r) ∧ ∀ r ∈ y, ¬ freeY (atF now) r) ∨
  ∃ (i : Nat) (r r' : RF) (rest : List Itm), y[i]? = some r ∧ NextY y (atF now) i ph ∧ id = r.id ∧ r.f.q = it :: rest ∧ y' = y.set i r' ∧ r'.id = r.id ∧ r'.f = takenFl r.f (atF now) ph it rest ∧ QAt w' 0 (rfQ r') rest ∧ ∀ g, (rfQ r').ownBlock = some g → (rfQ r).ownBlock = some g
def RPickRet (y : List RF) (now : Int) (w : World) (en : Ending) (w' : World) : Prop :=
  ∃ (id ph : Int) (it : Itm) (y' : List RF) (A : Option Addr) (c : Nat), en = .returned (.agg #[.slice A y'.length c, .int .i64 id, .int .i64 it.na, .int .i64 it.de, .int .i64 it.rh, .int .i64 ph]) ∧ PickY y now w' id it ph y' ∧ RowsRet y' w A c w'
theorem NextY.at_ {y : List RF} {now : Int} {i : Nat} {ph : Int} (h : NextY y now i ph) : ∃ r, y[i]? = some r ∧ ∃ rest it, r.f.q = it :: rest := by
  have key : ∀ r : RF, r.f.q ≠ [] → ∃ rest it, r.f.q = it :: rest := fun r h => by
    cases hq : r.f.q with
    | nil => exact absurd hq h
    | cons it rest => exact ⟨rest, it, rfl⟩
  rcases h with ⟨_, r, hr, hp, _⟩ | ⟨_, _, r, hr, hp, _⟩
  · exact ⟨r, hr, key r hp.1⟩
  · exact ⟨r, hr, key r hp.1⟩
theorem box_ldPol {w : World} {g : Nat} {r : RF} (h : w.heap[g]? = some (.cells (rfArr r) 49 (0, 0))) (hp : InP r.f.p) : (ldPol (.pointer (some ⟨g, 2, none⟩))).run Tryz.prog w = .ok (.agg #[.int .i64 r.f.p.re, .int .i64 r.f.p.we, .int .i64 r.f.p.li, .int .i64 r.f.p.bu]) w :=
  ldPol_run ⟨row_cell h 2, row_cell h 3, row_cell h 4, row_cell h 5, hp⟩
theorem pk_size : (Tryz.prog.info? 40).map (·.size) = some 6 := by kernel_rfl
def stPk (p v : Value) : Sem Unit := Instr.storeAt 40 p v
theorem stPk_eq (p v : Value) : Instr.storeAt 40 p v = stPk p v := rfl
theorem stPk_run {w : World} {g : Nat} {a b c d e f : Value} (h : w.heap[g]? = some (.cells #[a, b, c, d, e, f] 40 (0, 0))) {A : Option Addr} {n k : Nat} (v : Value) (id : Int) (it : Itm) (ph : Int) (hv : v = .slice A n k := by rfl) :
    (stPk (.pointer (some ⟨g, 0, none⟩)) (.agg #[v, .int .i64 id, .int .i64 it.na, .int .i64 it.de, .int .i64 it.rh, .int .i64 ph])).run Tryz.prog w = .ok () (w.setRow g #[v, .int .i64 id, .int .i64 it.na, .int .i64 it.de, .int .i64 it.rh, .int .i64 ph]) := by
  subst hv
  unfold stPk
  simp only [Instr.storeAt, Instr.sureAddr, Sem.run_bind, Sem.run_pure, Result.andThen_ok]
  exact run_storeVar_row (P := Tryz.prog) w g _ _ _ _ h pk_size rfl (by simp [Value.oneCell'])
def bdPk (parts : Array (Nat × Value)) : Sem Value := Instr.build 40 parts
theorem bdPk_eq (parts : Array (Nat × Value)) : Instr.build 40 parts = bdPk parts := rfl
theorem bdPk_run (w : World) (A : Option Addr) (n c : Nat) (id na de rh ph : Int) :
    (bdPk #[(0, .slice A n c), (1, .int .i64 id), (2, .agg #[.int .i64 na, .int .i64 de, .int .i64 rh]), (3, .int .i64 ph)]).run Tryz.prog w = .ok (.agg #[.slice A n c, .int .i64 id, .int .i64 na, .int .i64 de, .int .i64 rh, .int .i64 ph]) w := by
  kernel_rfl
theorem bdPk_run0 (w : World) (A : Option Addr) (n c : Nat) :
    (bdPk #[(0, .slice A n c)]).run Tryz.prog w = .ok (.agg #[.slice A n c, .int .i64 0, .int .i64 0, .int .i64 0, .int .i64 0, .int .i64 0]) w := by
  kernel_rfl
/-- the flow that is left of one whose first item was taken -/
theorem take_left {w : World} {r : RF} {it : Itm} {rest : List Itm} (h : QAt w 0 (rfQ r) r.f.q) (hq : r.f.q = it :: rest) :
    ∃ g o cap, rfQ r = .slice (some ⟨g, o, none⟩) (rest.length + 1) (cap + 1) ∧ r.A = some ⟨g, o, none⟩ ∧ r.c = cap + 1 ∧ rest.length ≤ cap ∧ w.cell? ⟨g, o, none⟩ = some (.int .i64 it.na) ∧ w.cell? ⟨g, o + 1, none⟩ = some (.int .i64 it.de) ∧ w.cell? ⟨g, o + 2, none⟩ = some (.int .i64 it.rh) ∧ QAt w 0 (cutQ g o rest.length cap) rest := by
  rw [hq] at h
  obtain ⟨g, o, cap, h1, h2, _, _, c0, c1, c2, h3⟩ := h.some_
  have h4 := h1
  unfold rfQ at h4
  injection h4 with e1 e2 e3
  exact ⟨g, o, cap, h1, e1, e3, h2, c0, c1, c2, h3⟩
theorem pk_box (w : World) : ∃ W, w.alloc (.cells #[.slice none 0 0, .int .i64 0, .int .i64 0, .int .i64 0, .int .i64 0, .int .i64 0] 40) = W ∧ Below w.heap.size w W ∧ W.heap[w.heap.size]? = some (.cells #[.slice none 0 0, .int .i64 0, .int .i64 0, .int .i64 0, .int .i64 0, .int .i64 0] 40 (0, 0)) := ⟨_, rfl, below_box _ _, heap_alloc_new w _⟩

attribute [local go_sem ↓] ldItm_eq ldPol_eq ldClk_eq stClk_eq ldFlow_eq stPk_eq bdPk_eq
attribute [local irreducible] wpQuiet
set_option maxRecDepth 100000 in
set_option maxHeartbeats 16000000 in
theorem RPick_any (A : Option Addr) (n c : Nat) (y : List RF) (now : Int) (w : World) (hl : y.length = n) (hn : n ≤ 100000) (hnc : n ≤ c ∧ c ≤ maxLen) (hs : RowAt w A 49 (rfsV y)) (hok : ∀ r ∈ y, FlOk r.f) (hq : ∀ r ∈ y, QAt w 0 (rfQ r) r.f.q) (hnow : inI now) :
    Calls Tryz.prog 10 #[.slice A n c, .int .i64 now] w (RPickRet y now w) := by
  obtain ⟨w1, hw1, hb1, hx1⟩ := pk_box w
  have HSn := Lib.hid (fun (W : World) (hb : Below w.heap.size w W) => show Seen W A (rfsV y) from hs.seen.below hb)
  have HRow := Lib.hid hs; have HQ := Lib.hid hq; have Hok := Lib.hid hok; have Hl := Lib.hid hl; have Hnc := Lib.hid hnc; have Hb1 := Lib.hid hb1; have Hx1 := Lib.hid hx1
  have KT := Lib.hid (fun W => refTimes_any 65536 now W (by unfold inI; decide) hnow)
  clear hs hq hok hl hnc hb1 hx1 hnow
  go_enter Tryz.func10, Tryz.ntmps10
  go_wp2_with (go_at_call 23; refine (KT.out _).mono ?_; rintro e w2 ⟨rfl, rfl⟩)
  rw [show timesF 65536 now = atF now by unfold atF timesF; rw [Int.mul_comm]]
  clear hw1 KT
  go_loopw [6, 8] (fun av kv wr => ∃ (k : Nat) (v : Int), av = .int .i64 v ∧ kv = .int .i64 (k : Int) ∧ k ≤ n ∧ FoundY (dueY (atF now)) (fun r => r.f.c.r) y k v ∧ Below w1.heap.size w1 wr) (fun _ kv _ => n - (intOf kv).toNat)
  case atStart => exact ⟨0, -1, rfl, rfl, by omega, FoundY.start _ _ _, Below.refl _ _⟩
  case round =>
    obtain ⟨k, v, rfl, rfl, hkn, hfo, hb⟩ := hrel
    have HC1 := Lib.hid hb
    have Hb := Lib.hid (Hb1.out.trans (hb.mono Hb1.out.size))
    clear hb
    have k0 : (0 : Int) ≤ (k : Int) := by omega
    by_cases hlt : k < n
    · have k1 : (k : Int) < (n : Int) := by omega
      have wk := wrap_in ((k : Int) + 1) (by omega) (by omega)
      obtain ⟨s, hs⟩ : ∃ s, y[k]? = some s := ⟨_, List.getElem?_eq_getElem (by rw [Hl.out]; exact hlt)⟩
      obtain ⟨ga, o, rfl, -⟩ := (HSn.out wr Hb.out).rf hs
      have hc : ∀ q : BelowOf wr, ∀ (j : Nat) v, (rfV s)[j]? = some v → q.v.cell? ⟨ga, o + k * 10 + j, none⟩ = some v := fun q => (rf_at (HSn.out q.v (Hb.out.trans (q.h.mono Hb.out.size))) hs)
      obtain ⟨ms, hms⟩ : ∃ ms, s.f.q.length = ms := ⟨_, rfl⟩
      have k9 : ∀ q : BelowOf wr, q.v.cell? ⟨ga, o + k * 10 + 9, none⟩ = some (.slice s.A ms s.c) := fun q => by rw [← hms]; exact hc q 9 _ rfl
      have k6 : ∀ q : BelowOf wr, q.v.cell? ⟨ga, o + k * 10 + 6, none⟩ = some (.int .i64 s.f.c.r) := fun q => hc q 6 _ rfl
      have hlp : ∀ q : BelowOf wr, _ := fun q => rf_ldPol (hc q) (Hok.out s (List.mem_of_getElem? hs)).pol
      have hlc : ∀ q : BelowOf wr, _ := fun q => rf_ldClk (hc q)
      obtain ⟨b, hB⟩ : ∃ b, byReserveF s.f.p s.f.c (atF now) = b := ⟨_, rfl⟩
      have KB := Lib.hid (fun W => RByReserve_any s.f.p s.f.c (atF now) W (Hok.out s (List.mem_of_getElem? hs)).pol)
      rw [hB] at KB
      have HB := Lib.hid hB; have Hs := Lib.hid hs
      have Hqz := Lib.hid (fun h : ms = 0 => show s.f.q = [] from List.length_eq_zero_iff.1 (by rw [hms, h]))
      have Hqn := Lib.hid (fun (h : ms ≠ 0) => show s.f.q ≠ [] from fun e => h (by rw [← hms, e]; rfl))
      clear hB hs hms hc
      have hfo2 := hfo
      have Hfo := Lib.hid hfo
      clear hfo
      rcases hfo2 with ⟨rfl, -⟩ | ⟨j, rfl, hjk, u, hu, -, -⟩
      · have n1 : (-1 : Int) < 0 := by omega
        as_aux_lemma =>
          by_cases hz : ms = 0
          · have hz1 : ¬ (0 : Int) < (ms : Int) := by omega
            have hz2 : ¬ 0 < ms := by omega
            go_upto_region 6 with fail
            refine wp_region_quiet_below (by kernel_rfl) (by kernel_rfl) ?_
            repeat (quiet_step (fail))
            refine wpQuiet_nil ?_
            rintro _ ⟨⟨w4, hb4⟩, rfl⟩
            have Hb4 := Lib.hid (HC1.out.trans (hb4.mono HC1.out.size))
            clear hb4
            go_wp2
            go_roundw
            case rel => exact ⟨k + 1, (-1), rfl, by go_num, by omega, Hfo.out.skip Hs.out (fun h => h.1 (Hqz.out hz)), Hb4.out⟩
            case measure => simp [intOf]; omega
          · have hz1 : (0 : Int) < (ms : Int) := by omega
            have hz2 : 0 < ms := by omega
            have Hne := Lib.hid (Hqn.out hz)
            clear hz
            cases b with
            | false =>
              go_upto_region 6 with fail
              refine wp_region_quiet_below (by kernel_rfl) (by kernel_rfl) ?_
              repeat (quiet_step (fail))
              quiet_step (exact Calls.below_of (KB.out _))
              repeat (quiet_step (fail))
              refine wpQuiet_nil ?_
              rintro _ ⟨⟨w4, hb4⟩, rfl⟩
              have Hb4 := Lib.hid (HC1.out.trans (hb4.mono HC1.out.size))
              clear hb4
              go_wp2
              go_roundw
              case rel => exact ⟨k + 1, (-1), rfl, by go_num, by omega, Hfo.out.skip Hs.out (fun h => by have e := h.2; rw [HB.out] at e; cases e), Hb4.out⟩
              case measure => simp [intOf]; omega
            | true =>
              go_upto_region 6 with fail
              refine wp_region_quiet_below (by kernel_rfl) (by kernel_rfl) ?_
              repeat (quiet_step (fail))
              quiet_step (exact Calls.below_of (KB.out _))
              repeat (quiet_step (fail))
              refine wpQuiet_nil ?_
              rintro _ ⟨⟨w4, hb4⟩, rfl⟩
              have Hb4 := Lib.hid (HC1.out.trans (hb4.mono HC1.out.size))
              clear hb4
              go_wp2
              go_roundw
              case rel => exact ⟨k + 1, (k : Int), rfl, by go_num, by omega, Hfo.out.first Hs.out ⟨Hne.out, HB.out⟩, Hb4.out⟩
              case measure => simp [intOf]; omega
      · have j0 : (0 : Int) ≤ (j : Int) := by omega
        have j1 : (j : Int) < (n : Int) := by omega
        have j2 : ¬ (j : Int) < 0 := by omega
        have kj : ∀ q : BelowOf wr, q.v.cell? ⟨ga, o + j * 10 + 6, none⟩ = some (.int .i64 u.f.c.r) := fun q => rf_at (HSn.out q.v (Hb.out.trans (q.h.mono Hb.out.size))) hu 6 _ rfl
        have Hu := Lib.hid hu
        clear hu
        as_aux_lemma =>
          by_cases hz : ms = 0
          · have hz1 : ¬ (0 : Int) < (ms : Int) := by omega
            have hz2 : ¬ 0 < ms := by omega
            go_upto_region 6 with fail
            refine wp_region_quiet_below (by kernel_rfl) (by kernel_rfl) ?_
            repeat (quiet_step (fail))
            refine wpQuiet_nil ?_
            rintro _ ⟨⟨w4, hb4⟩, rfl⟩
            have Hb4 := Lib.hid (HC1.out.trans (hb4.mono HC1.out.size))
            clear hb4
            go_wp2
            go_roundw
            case rel => exact ⟨k + 1, (j : Int), rfl, by go_num, by omega, Hfo.out.skip Hs.out (fun h => h.1 (Hqz.out hz)), Hb4.out⟩
            case measure => simp [intOf]; omega
          · have hz1 : (0 : Int) < (ms : Int) := by omega
            have hz2 : 0 < ms := by omega
            have Hne := Lib.hid (Hqn.out hz)
            clear hz
            cases b with
            | false =>
              go_upto_region 6 with fail
              refine wp_region_quiet_below (by kernel_rfl) (by kernel_rfl) ?_
              repeat (quiet_step (fail))
              quiet_step (exact Calls.below_of (KB.out _))
              repeat (quiet_step (fail))
              refine wpQuiet_nil ?_
              rintro _ ⟨⟨w4, hb4⟩, rfl⟩
              have Hb4 := Lib.hid (HC1.out.trans (hb4.mono HC1.out.size))
              clear hb4
              go_wp2
              go_roundw
              case rel => exact ⟨k + 1, (j : Int), rfl, by go_num, by omega, Hfo.out.skip Hs.out (fun h => by have e := h.2; rw [HB.out] at e; cases e), Hb4.out⟩
              case measure => simp [intOf]; omega
            | true =>
              by_cases hlt2 : s.f.c.r < u.f.c.r
              · go_upto_region 6 with fail
                refine wp_region_quiet_below (by kernel_rfl) (by kernel_rfl) ?_
                repeat (quiet_step (fail))
                quiet_step (exact Calls.below_of (KB.out _))
                repeat (quiet_step (fail))
                refine wpQuiet_nil ?_
                rintro _ ⟨⟨w4, hb4⟩, rfl⟩
                have Hb4 := Lib.hid (HC1.out.trans (hb4.mono HC1.out.size))
                clear hb4
                go_wp2
                go_roundw
                case rel => exact ⟨k + 1, (k : Int), rfl, by go_num, by omega, (Hfo.out.than Hs.out ⟨Hne.out, HB.out⟩ Hu.out).1 hlt2, Hb4.out⟩
                case measure => simp [intOf]; omega
              · go_upto_region 6 with fail
                refine wp_region_quiet_below (by kernel_rfl) (by kernel_rfl) ?_
                repeat (quiet_step (fail))
                quiet_step (exact Calls.below_of (KB.out _))
                repeat (quiet_step (fail))
                refine wpQuiet_nil ?_
                rintro _ ⟨⟨w4, hb4⟩, rfl⟩
                have Hb4 := Lib.hid (HC1.out.trans (hb4.mono HC1.out.size))
                clear hb4
                go_wp2
                go_roundw
                case rel => exact ⟨k + 1, (j : Int), rfl, by go_num, by omega, (Hfo.out.than Hs.out ⟨Hne.out, HB.out⟩ Hu.out).2 hlt2, Hb4.out⟩
                case measure => simp [intOf]; omega
    · obtain rfl : n = k := by omega
      have k1 : ¬ (n : Int) < (n : Int) := by omega
      clear hkn hlt
      rw [← Hl.out] at hfo
      have Hfo := Lib.hid hfo
      clear hfo
      by_cases hv : v < 0
      · have Hnone := Lib.hid (Hfo.out.none hv)
        obtain rfl : v = -1 := by
          rcases Hfo.out with ⟨h, _⟩ | ⟨i, h, _⟩
          · exact h
          · omega
        clear Hfo k1
        go_wp2
        go_loopw [6, 9] (fun av kv wr => ∃ (k : Nat) (v : Int), av = .int .i64 v ∧ kv = .int .i64 (k : Int) ∧ k ≤ n ∧ FoundY (freeY (atF now)) (fun r => r.f.c.p) y k v ∧ Below w1.heap.size w1 wr) (fun _ kv _ => n - (intOf kv).toNat)
        case atStart => exact ⟨0, -1, rfl, rfl, by omega, FoundY.start _ _ _, HC1.out⟩
        case round =>
          obtain ⟨k, v, rfl, rfl, hkn, hfo, hb⟩ := hrel
          have HC1 := Lib.hid hb
          have Hb := Lib.hid (Hb1.out.trans (hb.mono Hb1.out.size))
          clear hb
          have k0 : (0 : Int) ≤ (k : Int) := by omega
          by_cases hlt : k < n
          · have k1 : (k : Int) < (n : Int) := by omega
            have wk := wrap_in ((k : Int) + 1) (by omega) (by omega)
            obtain ⟨s, hs⟩ : ∃ s, y[k]? = some s := ⟨_, List.getElem?_eq_getElem (by rw [Hl.out]; exact hlt)⟩
            obtain ⟨ga, o, rfl, -⟩ := (HSn.out wr Hb.out).rf hs
            have hc : ∀ q : BelowOf wr, ∀ (j : Nat) v, (rfV s)[j]? = some v → q.v.cell? ⟨ga, o + k * 10 + j, none⟩ = some v := fun q => (rf_at (HSn.out q.v (Hb.out.trans (q.h.mono Hb.out.size))) hs)
            obtain ⟨ms, hms⟩ : ∃ ms, s.f.q.length = ms := ⟨_, rfl⟩
            have k9 : ∀ q : BelowOf wr, q.v.cell? ⟨ga, o + k * 10 + 9, none⟩ = some (.slice s.A ms s.c) := fun q => by rw [← hms]; exact hc q 9 _ rfl
            have k6 : ∀ q : BelowOf wr, q.v.cell? ⟨ga, o + k * 10 + 7, none⟩ = some (.int .i64 s.f.c.p) := fun q => hc q 7 _ rfl
            have hlp : ∀ q : BelowOf wr, _ := fun q => rf_ldPol (hc q) (Hok.out s (List.mem_of_getElem? hs)).pol
            have hlc : ∀ q : BelowOf wr, _ := fun q => rf_ldClk (hc q)
            obtain ⟨b, hB⟩ : ∃ b, byLimitF s.f.p s.f.c (atF now) = b := ⟨_, rfl⟩
            have KB := Lib.hid (fun W => RByLimit_any s.f.p s.f.c (atF now) W (Hok.out s (List.mem_of_getElem? hs)).pol)
            rw [hB] at KB
            have HB := Lib.hid hB; have Hs := Lib.hid hs
            have Hqz := Lib.hid (fun h : ms = 0 => show s.f.q = [] from List.length_eq_zero_iff.1 (by rw [hms, h]))
            have Hqn := Lib.hid (fun (h : ms ≠ 0) => show s.f.q ≠ [] from fun e => h (by rw [← hms, e]; rfl))
            clear hB hs hms hc
            have hfo2 := hfo
            have Hfo := Lib.hid hfo
            clear hfo
            rcases hfo2 with ⟨rfl, -⟩ | ⟨j, rfl, hjk, u, hu, -, -⟩
            · have n1 : (-1 : Int) < 0 := by omega
              as_aux_lemma =>
                by_cases hz : ms = 0
                · have hz1 : ¬ (0 : Int) < (ms : Int) := by omega
                  have hz2 : ¬ 0 < ms := by omega
                  go_upto_region 13 with fail
                  refine wp_region_quiet_below (by kernel_rfl) (by kernel_rfl) ?_
                  repeat (quiet_step (fail))
                  refine wpQuiet_nil ?_
                  rintro _ ⟨⟨w4, hb4⟩, rfl⟩
                  have Hb4 := Lib.hid (HC1.out.trans (hb4.mono HC1.out.size))
                  clear hb4
                  go_wp2
                  go_roundw
                  case rel => exact ⟨k + 1, (-1), rfl, by go_num, by omega, Hfo.out.skip Hs.out (fun h => h.1 (Hqz.out hz)), Hb4.out⟩
                  case measure => simp [intOf]; omega
                · have hz1 : (0 : Int) < (ms : Int) := by omega
                  have hz2 : 0 < ms := by omega
                  have Hne := Lib.hid (Hqn.out hz)
                  clear hz
                  cases b with
                  | false =>
                    go_upto_region 13 with fail
                    refine wp_region_quiet_below (by kernel_rfl) (by kernel_rfl) ?_
                    repeat (quiet_step (fail))
                    quiet_step (exact Calls.below_of (KB.out _))
                    repeat (quiet_step (fail))
                    refine wpQuiet_nil ?_
                    rintro _ ⟨⟨w4, hb4⟩, rfl⟩
                    have Hb4 := Lib.hid (HC1.out.trans (hb4.mono HC1.out.size))
                    clear hb4
                    go_wp2
                    go_roundw
                    case rel => exact ⟨k + 1, (-1), rfl, by go_num, by omega, Hfo.out.skip Hs.out (fun h => by have e := h.2; rw [HB.out] at e; cases e), Hb4.out⟩
                    case measure => simp [intOf]; omega
                  | true =>
                    go_upto_region 13 with fail
                    refine wp_region_quiet_below (by kernel_rfl) (by kernel_rfl) ?_
                    repeat (quiet_step (fail))
                    quiet_step (exact Calls.below_of (KB.out _))
                    repeat (quiet_step (fail))
                    refine wpQuiet_nil ?_
                    rintro _ ⟨⟨w4, hb4⟩, rfl⟩
                    have Hb4 := Lib.hid (HC1.out.trans (hb4.mono HC1.out.size))
                    clear hb4
                    go_wp2
                    go_roundw
                    case rel => exact ⟨k + 1, (k : Int), rfl, by go_num, by omega, Hfo.out.first Hs.out ⟨Hne.out, HB.out⟩, Hb4.out⟩
                    case measure => simp [intOf]; omega
            · have j0 : (0 : Int) ≤ (j : Int) := by omega
              have j1 : (j : Int) < (n : Int) := by omega
              have j2 : ¬ (j : Int) < 0 := by omega
              have kj : ∀ q : BelowOf wr, q.v.cell? ⟨ga, o + j * 10 + 7, none⟩ = some (.int .i64 u.f.c.p) := fun q => rf_at (HSn.out q.v (Hb.out.trans (q.h.mono Hb.out.size))) hu 7 _ rfl
              have Hu := Lib.hid hu
              clear hu
              as_aux_lemma =>
                by_cases hz : ms = 0
                · have hz1 : ¬ (0 : Int) < (ms : Int) := by omega
                  have hz2 : ¬ 0 < ms := by omega
                  go_upto_region 13 with fail
                  refine wp_region_quiet_below (by kernel_rfl) (by kernel_rfl) ?_
                  repeat (quiet_step (fail))
                  refine wpQuiet_nil ?_
                  rintro _ ⟨⟨w4, hb4⟩, rfl⟩
                  have Hb4 := Lib.hid (HC1.out.trans (hb4.mono HC1.out.size))
                  clear hb4
                  go_wp2
                  go_roundw
                  case rel => exact ⟨k + 1, (j : Int), rfl, by go_num, by omega, Hfo.out.skip Hs.out (fun h => h.1 (Hqz.out hz)), Hb4.out⟩
                  case measure => simp [intOf]; omega
                · have hz1 : (0 : Int) < (ms : Int) := by omega
                  have hz2 : 0 < ms := by omega
                  have Hne := Lib.hid (Hqn.out hz)
                  clear hz
                  cases b with
                  | false =>
                    go_upto_region 13 with fail
                    refine wp_region_quiet_below (by kernel_rfl) (by kernel_rfl) ?_
                    repeat (quiet_step (fail))
                    quiet_step (exact Calls.below_of (KB.out _))
                    repeat (quiet_step (fail))
                    refine wpQuiet_nil ?_
                    rintro _ ⟨⟨w4, hb4⟩, rfl⟩
                    have Hb4 := Lib.hid (HC1.out.trans (hb4.mono HC1.out.size))
                    clear hb4
                    go_wp2
                    go_roundw
                    case rel => exact ⟨k + 1, (j : Int), rfl, by go_num, by omega, Hfo.out.skip Hs.out (fun h => by have e := h.2; rw [HB.out] at e; cases e), Hb4.out⟩
                    case measure => simp [intOf]; omega
                  | true =>
                    by_cases hlt2 : s.f.c.p < u.f.c.p
                    · go_upto_region 13 with fail
                      refine wp_region_quiet_below (by kernel_rfl) (by kernel_rfl) ?_
                      repeat (quiet_step (fail))
                      quiet_step (exact Calls.below_of (KB.out _))
                      repeat (quiet_step (fail))
                      refine wpQuiet_nil ?_
                      rintro _ ⟨⟨w4, hb4⟩, rfl⟩
                      have Hb4 := Lib.hid (HC1.out.trans (hb4.mono HC1.out.size))
                      clear hb4
                      go_wp2
                      go_roundw
                      case rel => exact ⟨k + 1, (k : Int), rfl, by go_num, by omega, (Hfo.out.than Hs.out ⟨Hne.out, HB.out⟩ Hu.out).1 hlt2, Hb4.out⟩
                      case measure => simp [intOf]; omega
                    · go_upto_region 13 with fail
                      refine wp_region_quiet_below (by kernel_rfl) (by kernel_rfl) ?_
                      repeat (quiet_step (fail))
                      quiet_step (exact Calls.below_of (KB.out _))
                      repeat (quiet_step (fail))
                      refine wpQuiet_nil ?_
                      rintro _ ⟨⟨w4, hb4⟩, rfl⟩
                      have Hb4 := Lib.hid (HC1.out.trans (hb4.mono HC1.out.size))
                      clear hb4
                      go_wp2
                      go_roundw
                      case rel => exact ⟨k + 1, (j : Int), rfl, by go_num, by omega, (Hfo.out.than Hs.out ⟨Hne.out, HB.out⟩ Hu.out).2 hlt2, Hb4.out⟩
                      case measure => simp [intOf]; omega
          · obtain rfl : n = k := by omega
            have k1 : ¬ (n : Int) < (n : Int) := by omega
            clear hkn hlt
            rw [← Hl.out] at hfo
            have Hfo := Lib.hid hfo
            clear hfo
            by_cases hv2 : v < 0
            · have Hnone2 := Lib.hid (Hfo.out.none hv2)
              obtain rfl : v = -1 := by
                rcases Hfo.out with ⟨h, _⟩ | ⟨i, h, _⟩
                · exact h
                · omega
              clear Hfo
              as_aux_lemma =>
                have hresr := (HC1.out.block _ (Array.getElem?_eq_some_iff.1 Hx1.out).1).trans Hx1.out
                have hst := stPk_run hresr (.slice A n c) 0 ⟨0, 0, 0⟩ 0
                have Hresr := Lib.hid hresr
                have hbd := bdPk_run0 wr A n c
                clear hresr
                go_wp2
                refine bodyPost_ret (results_cell_row rfl _ _ w.heap.size 40 #[.slice A n c, .int .i64 0, .int .i64 0, .int .i64 0, .int .i64 0, .int .i64 0] (0, 0) _ rfl (setRow_heap _ _ _ _ _ (0, 0) Hresr.out) Tryz.underlying40 rfl pk_size) rfl ?_
                have tR : Turned (fun j => j = w.heap.size) wr (wr.setRow w.heap.size #[.slice A n c, .int .i64 0, .int .i64 0, .int .i64 0, .int .i64 0, .int .i64 0]) := ⟨rfl, rfl, rfl, by simp, fun k _ hk => setRow_other _ _ k _ (fun e => hk e)⟩
                refine ⟨0, 0, ⟨0, 0, 0⟩, y, A, c, by rw [Hl.out], .inl ⟨rfl, rfl, rfl, rfl, Hnone.out, Hnone2.out⟩, ?_, by rw [Hl.out]; exact Hnc.out, Hb.out.trans (tR.below (fun j hj => by rw [hj]; exact Nat.le_refl _) Hb.out.size)⟩
                exact (HRow.out.below Hb.out).turned tR fun k cs hk e => cells_ne hk Hresr.out (by decide) e
            · obtain ⟨i, rfl, hf⟩ := Hfo.out.some_ hv2
              obtain ⟨ph, hph⟩ : ∃ ph : Int, 2 = ph := ⟨_, rfl⟩
              have hN : NextY y (atF now) i ph := .inr ⟨hph.symm, Hnone.out, hf⟩
              have hph2 : ph = 1 ∨ ph = 2 := .inr hph.symm
              clear Hfo hf hv2 Hnone
              go_upto_if 111 with fail
              rw [hph]
              clear hph
              as_aux_lemma =>
                obtain ⟨r, hri, rest, it, hrq⟩ := NextY.at_ hN
                obtain ⟨ga, o, rfl, -⟩ := (HSn.out wr Hb.out).rf hri
                have hin : i < n := by rw [← Hl.out]; exact (List.getElem?_eq_some_iff.1 hri).1
                have i0 : (0 : Int) ≤ (i : Int) := by omega
                have i1 : (i : Int) < (n : Int) := by omega
                have i2 : ¬ (i : Int) < 0 := by omega
                have hld := ldFlow_run (rf_at (HSn.out wr Hb.out) hri)
                obtain ⟨wA, hwA, hbA, hxA⟩ := rf_box wr r
                have hbwA := Hb.out.trans (hbA.mono Hb.out.size)
                obtain ⟨gq, oq, cap, hv1, hrA, hrc, hcap, c0, c1, c2, hcut⟩ := take_left ((HQ.out r (List.mem_of_getElem? hri)).below hbwA) hrq
                obtain ⟨m, hm⟩ : ∃ m, rest.length = m := ⟨_, rfl⟩
                rw [hm] at hcap hcut
                have hlen1 : r.f.q.length = m + 1 := by rw [hrq, List.length_cons, hm]
                have d9 : wA.cell? ⟨wr.heap.size, 9, none⟩ = some (.slice (some ⟨gq, oq, none⟩) (m + 1) (cap + 1)) := by rw [row_cell hxA]; show some (Value.slice r.A r.f.q.length r.c) = _; rw [hrA, hrc, hlen1]
                have hli := ldItm_run (i := it) c0 c1 c2
                have m0 : (0 : Int) < (m : Int) + 1 := by omega
                have hresr := (HC1.out.block _ (Array.getElem?_eq_some_iff.1 Hx1.out).1).trans Hx1.out
                have hresA := (hbA.block _ (Array.getElem?_eq_some_iff.1 hresr).1).trans hresr
                have HresA := Lib.hid (And.intro hresA (Array.getElem?_eq_some_iff.1 hresA).1)
                have HbA := Lib.hid hbwA; have HxA := Lib.hid hxA; have Hri := Lib.hid hri; have Hrq := Lib.hid hrq; have Hcut := Lib.hid hcut; have HN := Lib.hid hN; have Hm := Lib.hid hm; have HrAc := Lib.hid (And.intro hrA hrc); have Hfo := Lib.hid (Hok.out r (List.mem_of_getElem? hri)); have Hlen1 := Lib.hid hlen1; have Hwr := Lib.hid hbA.size
                have KW := Lib.hid (fun (W : World) (hb : Below w.heap.size w W) (r' : RF) => RWith_any (some ⟨ga, o, none⟩) n c i y r' W Hl.out hn hin (HSn.out W hb))
                have hqlt : gq < wA.heap.size := block_lt_of_cell c0
                have Hqlt := Lib.hid hqlt
                clear hresr hresA hbA hbwA hxA hri hrq hcut hN hm c0 c1 c2 hv1 hrA hrc hlen1 hqlt
                go_upto_region 18 with (refine wpList_store_row rfl 49 (.tmp 10) (.tmp 117) rfl wr.heap.size (rfArr r) rfl rfl 49 _ (heap_alloc_new _ _) rf_size rfl (by simp [rfArr, Value.oneCell']) ?_; rw [World.setRow_alloc_new, hwA])
                obtain ⟨g, hg⟩ : ∃ g, wr.heap.size = g := ⟨_, rfl⟩
                rw [hg] at HxA d9 ⊢
                have Hgw := Lib.hid (show w.heap.size ≤ g by rw [← hg]; exact Hb.out.size)
                have Hgw2 := Lib.hid (show w1.heap.size ≤ g by rw [← hg]; exact HC1.out.size)
                have HgA := Lib.hid (Array.getElem?_eq_some_iff.1 HxA.out).1
                clear hg hwA hld Hwr
                go_upto_region 19 with fail
                have hbB := below_box wA (.cells #[.int .i64 it.na, .int .i64 it.de, .int .i64 it.rh] 30)
                have hxI := heap_alloc_new wA (.cells #[.int .i64 it.na, .int .i64 it.de, .int .i64 it.rh] 30)
                change Code.wp _ _ _ _ (wA.alloc (.cells #[.int .i64 it.na, .int .i64 it.de, .int .i64 it.rh] 30))
                generalize wA.alloc (.cells #[.int .i64 it.na, .int .i64 it.de, .int .i64 it.rh] 30) = wB at hbB hxI ⊢
                obtain ⟨gi, hgi⟩ : ∃ g, wA.heap.size = g := ⟨_, rfl⟩
                rw [hgi] at hxI ⊢
                have hxB := (hbB.block g HgA.out).trans HxA.out
                have d9B : wB.cell? ⟨g, 9, none⟩ = some (.slice (some ⟨gq, oq, none⟩) (m + 1) (cap + 1)) := by rw [row_cell hxB]; show some (Value.slice r.A r.f.q.length r.c) = _; rw [HrAc.out.1, HrAc.out.2, Hlen1.out]
                have z9B : wB.frozen? ⟨g, 9, none⟩ = false := row_frozen hxB 9
                have HbB := Lib.hid (HbA.out.trans (hbB.mono HbA.out.size)); have HxB := Lib.hid hxB; have HxI := Lib.hid hxI
                have HcutB := Lib.hid (Hcut.out.below hbB)
                have Hgig := Lib.hid (show ¬ gi = g by have := HgA.out; omega)
                have hresB := (hbB.block _ (by have := HresA.out.2; exact this)).trans HresA.out.1
                have Hrg := Lib.hid (show ¬ w.heap.size = g by have h1 := (Array.getElem?_eq_some_iff.1 Hx1.out).1; have h2 := HC1.out.size; have h3 := Hgw2.out; omega)
                have Hres := Lib.hid (fun (W : World) (t : Turned (fun j => j = g) wB W) => t.heap hresB Hrg.out)
                have Hgqi := Lib.hid (show gq < gi by rw [← hgi]; exact Hqlt.out)
                clear hbB hxI hxB hgi d9 hli HxA Hcut hresB
                obtain ⟨v, hv⟩ : ∃ v, cutQ gq oq m cap = v := ⟨_, rfl⟩
                obtain ⟨vA, vc, hvs⟩ : ∃ A c, v = .slice A m c := by rw [← hv]; unfold cutQ; split <;> exact ⟨_, _, rfl⟩
                have Hv := Lib.hid hv; have Hvs := Lib.hid hvs
                clear hvs
                go_cut [124] (fun v' wx => v' = v ∧ wx = wB.setCell ⟨g, 9, none⟩ v)
                case first =>
                  by_cases hz : cap = 0
                  · subst hz
                    obtain rfl : m = 0 := by omega
                    have hv2 : v = .slice (some ⟨gq, oq, none⟩) 0 0 := hv.symm
                    subst hv2
                    clear hv
                    go_wp2
                    go_meet
                    exact ⟨rfl, rfl⟩
                  · have hv2 : v = .slice (some ⟨gq, oq + 3, none⟩) m cap := by rw [← hv]; unfold cutQ; rw [if_neg hz]
                    subst hv2
                    clear hv
                    go_wp2
                    go_meet
                    exact ⟨rfl, rfl⟩
                case rest =>
                  obtain ⟨rfl, hwc⟩ := hcut
                  obtain ⟨wC, rfl⟩ : ∃ x, x = wc := ⟨_, rfl⟩
                  clear hv d9B z9B
                  have tC : Turned (fun j => j = g) wB wC := by rw [hwc]; exact set_wo (g := g) 9 _
                  obtain ⟨r1, hr1⟩ : ∃ x, ({ r with f := { r.f with q := rest }, A := vA, c := vc } : RF) = x := ⟨_, rfl⟩
                  have hxC : wC.heap[g]? = some (.cells (rfArr r1) 49 (0, 0)) := by
                    rw [hwc, Hvs.out, ← hr1, ← Hm.out]
                    exact row_set HxB.out 9 _
                  have hqC : QAt wC 0 (.slice vA m vc) rest := by
                    have h1 := HcutB.out
                    rw [Hv.out, Hvs.out] at h1
                    refine h1.turned tC fun j hj e => ?_
                    obtain ⟨_, cs, e2⟩ := h1.block hj
                    exact absurd e (cells_ne e2 HxB.out (by decide))
                  have hqb : ∀ x, (Value.slice vA m vc).ownBlock = some x → (rfQ r).ownBlock = some x := fun x hx => by
                    rw [← Hvs.out, ← Hv.out, cutQ_block] at hx
                    unfold rfQ
                    rw [HrAc.out.1]
                    exact hx
                  have hxIC : wC.heap[gi]? = some (.cells #[.int .i64 it.na, .int .i64 it.de, .int .i64 it.rh] 30 (0, 0)) := tC.heap HxI.out Hgig.out
                  have e1 : wC.cell? ⟨gi, 1, none⟩ = some (.int .i64 it.de) := row_cell hxIC 1
                  have e2 : wC.cell? ⟨gi, 2, none⟩ = some (.int .i64 it.rh) := row_cell hxIC 2
                  have hfl := Hfo.out
                  have hit := hfl.items it (by rw [Hrq.out]; exact List.mem_cons_self)
                  have hlp := box_ldPol hxC (by rw [← hr1]; exact hfl.pol)
                  have hlc := box_ldClk hxC
                  have ep : r1.f.p = r.f.p := by rw [← hr1]
                  have ec : r1.f.c = r.f.c := by rw [← hr1]
                  rw [ep] at hlp
                  rw [ec] at hlc
                  have KC := Lib.hid (RCharge_any r.f.p r.f.c (atF now) ph it.de it.rh wC hfl.pol hfl.clk (atF_bd now) hit.2.1 hit.2.2)
                  obtain ⟨cw, hcw⟩ : ∃ cw, chargeF r.f.p r.f.c (atF now) ph it.de it.rh = cw := ⟨_, rfl⟩
                  rw [hcw] at KC
                  obtain ⟨r2, hr2⟩ : ∃ x, ({ r1 with f := { r1.f with c := cw } } : RF) = x := ⟨_, rfl⟩
                  have hbC : Below w.heap.size w wC := HbB.out.trans (tC.below (fun j hj => by rw [hj]; exact Hgw.out) HbB.out.size)
                  have hres : wC.heap[w.heap.size]? = some (.cells #[.slice none 0 0, .int .i64 0, .int .i64 0, .int .i64 0, .int .i64 0, .int .i64 0] 40 (0, 0)) := Hres.out wC tC
                  have HxC := Lib.hid hxC; have HqC := Lib.hid hqC; have Hqb := Lib.hid hqb; have HxIC := Lib.hid hxIC; have HbC := Lib.hid hbC; have HrC := Lib.hid hres; have Hcw := Lib.hid hcw; have Hr1 := Lib.hid hr1; have Hr2 := Lib.hid hr2
                  clear hxC hqC hqb hxIC hbC hres hcw hr1 hr2 tC hwc hfl hit ep ec
                  go_upto_region 21 with (go_at_call 30; refine KC.out.mono ?_; rintro e wD ⟨rfl, hbD⟩; have hxD := (hbD.block g (Array.getElem?_eq_some_iff.1 HxC.out).1).trans HxC.out; obtain ⟨wE, rE, hxE, tE⟩ := box_clk hxD cw; have HbD := Lib.hid hbD; have HxE := Lib.hid hxE; have TE := Lib.hid tE; clear hbD hxD hxE tE)
                  clear e1 e2 hlp hlc KC
                  have hbE : Below w.heap.size w wE := HbC.out.trans ((HbD.out.mono HbC.out.size).trans (TE.out.below (fun j hj => by rw [hj]; exact Hgw.out) (Nat.le_trans HbC.out.size HbD.out.size)))
                  have hxE : wE.heap[g]? = some (.cells (rfArr r2) 49 (0, 0)) := by rw [← Hr2.out]; exact HxE.out
                  have hIE := TE.out.heap ((HbD.out.block gi (Array.getElem?_eq_some_iff.1 HxIC.out).1).trans HxIC.out) Hgig.out
                  have hrE := TE.out.heap ((HbD.out.block _ (Array.getElem?_eq_some_iff.1 HrC.out).1).trans HrC.out) Hrg.out
                  have hldF := ldFlow_row (w := wE.drew) hxE
                  have hid0 : wE.cell? ⟨g, 0, none⟩ = some (.int .i64 r2.id) := row_cell hxE 0
                  have hli := itm_run (w := wE.drew) hIE
                  have HbE := Lib.hid hbE; have HxE2 := Lib.hid hxE; have HIE := Lib.hid hIE; have HrE := Lib.hid hrE
                  have KW2 := Lib.hid (KW.out wE.drew hbE.drew r2)
                  clear hbE hxE hIE hrE
                  go_cut [146] (fun v wx => ∃ (A7 : Option Addr) (c7 : Nat) (w7 : World), v = .agg #[.slice A7 n c7, .int .i64 r2.id, .int .i64 it.na, .int .i64 it.de, .int .i64 it.rh, .int .i64 ph] ∧ wx = w7.setRow w.heap.size #[.slice A7 n c7, .int .i64 r2.id, .int .i64 it.na, .int .i64 it.de, .int .i64 it.rh, .int .i64 ph] ∧ RowsRet (y.set i r2) wE.drew A7 c7 w7)
                  case first =>
                    have HS := Lib.hid (fun (W : World) (hb : Below wE.heap.size wE W) => show (ldFlow (.pointer (some ⟨g, 0, none⟩))).run Tryz.prog W = .ok (.agg (rfArr r2)) W ∧ W.cell? ⟨g, 0, none⟩ = some (.int .i64 r2.id) ∧ (ldItm (.pointer (some ⟨gi, 0, none⟩))).run Tryz.prog W = .ok (.agg #[.int .i64 it.na, .int .i64 it.de, .int .i64 it.rh]) W from
                      have hx := (hb.block g (Array.getElem?_eq_some_iff.1 HxE2.out).1).trans HxE2.out
                      ⟨ldFlow_row hx, row_cell hx 0, itm_run ((hb.block gi (Array.getElem?_eq_some_iff.1 HIE.out).1).trans HIE.out)⟩)
                    have HbD := Lib.hid (show Below wE.heap.size wE wE.drew from (Below.refl _ _).drew)
                    clear hldF hid0 hli
                    go_region_held3 (fun w' => (ldFlow (.pointer (some ⟨g, 0, none⟩))).run Tryz.prog w' = .ok (.agg (rfArr r2)) w' ∧ w'.cell? ⟨g, 0, none⟩ = some (.int .i64 r2.id) ∧ (ldItm (.pointer (some ⟨gi, 0, none⟩))).run Tryz.prog w' = .ok (.agg #[.int .i64 it.na, .int .i64 it.de, .int .i64 it.rh]) w')
                      (first | exact HS.out _ HbD.out | exact HS.out _ Hb7.out | exact Hs8.out)
                      (first | (go_at_call 19; refine KW2.out.mono ?_; rintro e w7 ⟨A7, c7, he, h7⟩; rw [List.length_set, Hl.out] at he; subst he; have hb7 : Below wE.heap.size wE w7 := Below.of_drew h7.2.2; have hr7 := (hb7.block w.heap.size (Array.getElem?_eq_some_iff.1 HrE.out).1).trans HrE.out; have hst7 := stPk_run hr7 (.slice A7 n c7) r2.id it ph; have hbd7 := fun W => bdPk_run W A7 n c7 r2.id it.na it.de it.rh ph; have tR7 : Turned (fun j => j = w.heap.size) w7 (w7.setRow w.heap.size #[.slice A7 n c7, .int .i64 r2.id, .int .i64 it.na, .int .i64 it.de, .int .i64 it.rh, .int .i64 ph]) := ⟨rfl, rfl, rfl, by simp, fun k _ hk => setRow_other _ _ k _ (fun e => hk e)⟩; have hx7 := (hb7.block g (Array.getElem?_eq_some_iff.1 HxE2.out).1).trans HxE2.out; have hi7 := (hb7.block gi (Array.getElem?_eq_some_iff.1 HIE.out).1).trans HIE.out; have hx8 := tR7.heap hx7 (cells_ne hx7 hr7 (by decide)); have Hs8 := Lib.hid (And.intro (ldFlow_row hx8) (And.intro (row_cell hx8 0) (itm_run (tR7.heap hi7 (cells_ne hi7 hr7 (by decide)))))); clear tR7 hx7 hi7 hx8; have H7 := Lib.hid h7; have Hb7 := Lib.hid hb7; have Hr7 := Lib.hid hr7; clear h7 hb7 hr7))
                    all_goals
                      go_wp2_with fail
                      go_meet
                      exact ⟨A7, c7, w7, rfl, rfl, H7.out⟩
                  case rest =>
                    obtain ⟨A7, c7, w7, rfl, rfl, h7⟩ := hcut
                    have H7 := Lib.hid h7
                    have Hb7 := Lib.hid (Below.of_drew h7.2.2)
                    have Hr7 := Lib.hid ((Hb7.out.block w.heap.size (Array.getElem?_eq_some_iff.1 HrE.out).1).trans HrE.out)
                    clear h7 hldF hid0 hli
                    go_wp2_with fail
                    refine bodyPost_ret (results_cell_row rfl _ _ w.heap.size 40 #[.slice A7 n c7, .int .i64 r2.id, .int .i64 it.na, .int .i64 it.de, .int .i64 it.rh, .int .i64 ph] (0, 0) _ rfl (setRow_heap _ _ _ _ _ (0, 0) Hr7.out) Tryz.underlying40 rfl pk_size) rfl ?_
                    have tR : Turned (fun j => j = w.heap.size) w7 (w7.setRow w.heap.size #[.slice A7 n c7, .int .i64 r2.id, .int .i64 it.na, .int .i64 it.de, .int .i64 it.rh, .int .i64 ph]) := ⟨rfl, rfl, rfl, by simp, fun k _ hk => setRow_other _ _ k _ (fun e => hk e)⟩
                    have hbR : Below w.heap.size w (w7.setRow w.heap.size #[.slice A7 n c7, .int .i64 r2.id, .int .i64 it.na, .int .i64 it.de, .int .i64 it.rh, .int .i64 ph]) := (HbE.out.trans (Hb7.out.mono HbE.out.size)).trans (tR.below (fun j hj => by rw [hj]; exact Nat.le_refl _) (Nat.le_trans HbE.out.size Hb7.out.size))
                    have hrt : ∀ k cs T, w7.heap[k]? = some (.cells cs T (0, 0)) → T ≠ 40 → ¬ k = w.heap.size := fun k cs T hk hT e => cells_ne hk Hr7.out hT e
                    have e1 : r2.id = r.id := by rw [← Hr2.out, ← Hr1.out]
                    have e2 : r2.f = takenFl r.f (atF now) ph it rest := by rw [← Hr2.out, ← Hr1.out, ← Hcw.out]; rfl
                    have e3 : rfQ r2 = .slice vA m vc := by unfold rfQ; rw [← Hr2.out, ← Hr1.out, ← Hm.out]
                    refine ⟨r2.id, ph, it, y.set i r2, A7, c7, by rw [List.length_set, Hl.out], .inr ⟨i, r, r2, rest, Hri.out, HN.out, e1, Hrq.out, rfl, e1, e2, ?_, ?_⟩, ?_, H7.out.2.1, hbR⟩
                    · rw [e3]
                      have q1 : QAt wE 0 (.slice vA m vc) rest := (HqC.out.below HbD.out).turned TE.out fun j hj e => by
                        obtain ⟨_, cs, e4⟩ := (HqC.out.below HbD.out).block hj
                        have := TE.out
                        exact absurd e (cells_ne e4 ((HbD.out.block g (Array.getElem?_eq_some_iff.1 HxC.out).1).trans HxC.out) (by decide))
                      refine (q1.below Hb7.out).turned tR fun j hj e => ?_
                      obtain ⟨_, cs, e4⟩ := (q1.below Hb7.out).block hj
                      exact hrt j cs _ e4 (by decide) e
                    · rw [e3]
                      exact Hqb.out
                    · exact H7.out.1.turned tR fun k cs hk e => hrt k cs _ hk (by decide) e
      · obtain ⟨i, rfl, hf⟩ := Hfo.out.some_ hv
        obtain ⟨ph, hph⟩ : ∃ ph : Int, 1 = ph := ⟨_, rfl⟩
        have hN : NextY y (atF now) i ph := .inl ⟨hph.symm, hf⟩
        have hph2 : ph = 1 ∨ ph = 2 := .inl hph.symm
        have hi2 : ¬ (i : Int) < 0 := hv
        clear Hfo hf k1
        go_upto_if 111 with fail
        rw [hph]
        clear hph hi2 hv
        as_aux_lemma =>
          obtain ⟨r, hri, rest, it, hrq⟩ := NextY.at_ hN
          obtain ⟨ga, o, rfl, -⟩ := (HSn.out wr Hb.out).rf hri
          have hin : i < n := by rw [← Hl.out]; exact (List.getElem?_eq_some_iff.1 hri).1
          have i0 : (0 : Int) ≤ (i : Int) := by omega
          have i1 : (i : Int) < (n : Int) := by omega
          have i2 : ¬ (i : Int) < 0 := by omega
          have hld := ldFlow_run (rf_at (HSn.out wr Hb.out) hri)
          obtain ⟨wA, hwA, hbA, hxA⟩ := rf_box wr r
          have hbwA := Hb.out.trans (hbA.mono Hb.out.size)
          obtain ⟨gq, oq, cap, hv1, hrA, hrc, hcap, c0, c1, c2, hcut⟩ := take_left ((HQ.out r (List.mem_of_getElem? hri)).below hbwA) hrq
          obtain ⟨m, hm⟩ : ∃ m, rest.length = m := ⟨_, rfl⟩
          rw [hm] at hcap hcut
          have hlen1 : r.f.q.length = m + 1 := by rw [hrq, List.length_cons, hm]
          have d9 : wA.cell? ⟨wr.heap.size, 9, none⟩ = some (.slice (some ⟨gq, oq, none⟩) (m + 1) (cap + 1)) := by rw [row_cell hxA]; show some (Value.slice r.A r.f.q.length r.c) = _; rw [hrA, hrc, hlen1]
          have hli := ldItm_run (i := it) c0 c1 c2
          have m0 : (0 : Int) < (m : Int) + 1 := by omega
          have hresr := (HC1.out.block _ (Array.getElem?_eq_some_iff.1 Hx1.out).1).trans Hx1.out
          have hresA := (hbA.block _ (Array.getElem?_eq_some_iff.1 hresr).1).trans hresr
          have HresA := Lib.hid (And.intro hresA (Array.getElem?_eq_some_iff.1 hresA).1)
          have HbA := Lib.hid hbwA; have HxA := Lib.hid hxA; have Hri := Lib.hid hri; have Hrq := Lib.hid hrq; have Hcut := Lib.hid hcut; have HN := Lib.hid hN; have Hm := Lib.hid hm; have HrAc := Lib.hid (And.intro hrA hrc); have Hfo := Lib.hid (Hok.out r (List.mem_of_getElem? hri)); have Hlen1 := Lib.hid hlen1; have Hwr := Lib.hid hbA.size
          have KW := Lib.hid (fun (W : World) (hb : Below w.heap.size w W) (r' : RF) => RWith_any (some ⟨ga, o, none⟩) n c i y r' W Hl.out hn hin (HSn.out W hb))
          have hqlt : gq < wA.heap.size := block_lt_of_cell c0
          have Hqlt := Lib.hid hqlt
          clear hresr hresA hbA hbwA hxA hri hrq hcut hN hm c0 c1 c2 hv1 hrA hrc hlen1 hqlt
          go_upto_region 18 with (refine wpList_store_row rfl 49 (.tmp 10) (.tmp 117) rfl wr.heap.size (rfArr r) rfl rfl 49 _ (heap_alloc_new _ _) rf_size rfl (by simp [rfArr, Value.oneCell']) ?_; rw [World.setRow_alloc_new, hwA])
          obtain ⟨g, hg⟩ : ∃ g, wr.heap.size = g := ⟨_, rfl⟩
          rw [hg] at HxA d9 ⊢
          have Hgw := Lib.hid (show w.heap.size ≤ g by rw [← hg]; exact Hb.out.size)
          have Hgw2 := Lib.hid (show w1.heap.size ≤ g by rw [← hg]; exact HC1.out.size)
          have HgA := Lib.hid (Array.getElem?_eq_some_iff.1 HxA.out).1
          clear hg hwA hld Hwr
          go_upto_region 19 with fail
          have hbB := below_box wA (.cells #[.int .i64 it.na, .int .i64 it.de, .int .i64 it.rh] 30)
          have hxI := heap_alloc_new wA (.cells #[.int .i64 it.na, .int .i64 it.de, .int .i64 it.rh] 30)
          change Code.wp _ _ _ _ (wA.alloc (.cells #[.int .i64 it.na, .int .i64 it.de, .int .i64 it.rh] 30))
          generalize wA.alloc (.cells #[.int .i64 it.na, .int .i64 it.de, .int .i64 it.rh] 30) = wB at hbB hxI ⊢
          obtain ⟨gi, hgi⟩ : ∃ g, wA.heap.size = g := ⟨_, rfl⟩
          rw [hgi] at hxI ⊢
          have hxB := (hbB.block g HgA.out).trans HxA.out
          have d9B : wB.cell? ⟨g, 9, none⟩ = some (.slice (some ⟨gq, oq, none⟩) (m + 1) (cap + 1)) := by rw [row_cell hxB]; show some (Value.slice r.A r.f.q.length r.c) = _; rw [HrAc.out.1, HrAc.out.2, Hlen1.out]
          have z9B : wB.frozen? ⟨g, 9, none⟩ = false := row_frozen hxB 9
          have HbB := Lib.hid (HbA.out.trans (hbB.mono HbA.out.size)); have HxB := Lib.hid hxB; have HxI := Lib.hid hxI
          have HcutB := Lib.hid (Hcut.out.below hbB)
          have Hgig := Lib.hid (show ¬ gi = g by have := HgA.out; omega)
          have hresB := (hbB.block _ (by have := HresA.out.2; exact this)).trans HresA.out.1
          have Hrg := Lib.hid (show ¬ w.heap.size = g by have h1 := (Array.getElem?_eq_some_iff.1 Hx1.out).1; have h2 := HC1.out.size; have h3 := Hgw2.out; omega)
          have Hres := Lib.hid (fun (W : World) (t : Turned (fun j => j = g) wB W) => t.heap hresB Hrg.out)
          have Hgqi := Lib.hid (show gq < gi by rw [← hgi]; exact Hqlt.out)
          clear hbB hxI hxB hgi d9 hli HxA Hcut hresB
          obtain ⟨v, hv⟩ : ∃ v, cutQ gq oq m cap = v := ⟨_, rfl⟩
          obtain ⟨vA, vc, hvs⟩ : ∃ A c, v = .slice A m c := by rw [← hv]; unfold cutQ; split <;> exact ⟨_, _, rfl⟩
          have Hv := Lib.hid hv; have Hvs := Lib.hid hvs
          clear hvs
          go_cut [124] (fun v' wx => v' = v ∧ wx = wB.setCell ⟨g, 9, none⟩ v)
          case first =>
            by_cases hz : cap = 0
            · subst hz
              obtain rfl : m = 0 := by omega
              have hv2 : v = .slice (some ⟨gq, oq, none⟩) 0 0 := hv.symm
              subst hv2
              clear hv
              go_wp2
              go_meet
              exact ⟨rfl, rfl⟩
            · have hv2 : v = .slice (some ⟨gq, oq + 3, none⟩) m cap := by rw [← hv]; unfold cutQ; rw [if_neg hz]
              subst hv2
              clear hv
              go_wp2
              go_meet
              exact ⟨rfl, rfl⟩
          case rest =>
            obtain ⟨rfl, hwc⟩ := hcut
            obtain ⟨wC, rfl⟩ : ∃ x, x = wc := ⟨_, rfl⟩
            clear hv d9B z9B
            have tC : Turned (fun j => j = g) wB wC := by rw [hwc]; exact set_wo (g := g) 9 _
            obtain ⟨r1, hr1⟩ : ∃ x, ({ r with f := { r.f with q := rest }, A := vA, c := vc } : RF) = x := ⟨_, rfl⟩
            have hxC : wC.heap[g]? = some (.cells (rfArr r1) 49 (0, 0)) := by
              rw [hwc, Hvs.out, ← hr1, ← Hm.out]
              exact row_set HxB.out 9 _
            have hqC : QAt wC 0 (.slice vA m vc) rest := by
              have h1 := HcutB.out
              rw [Hv.out, Hvs.out] at h1
              refine h1.turned tC fun j hj e => ?_
              obtain ⟨_, cs, e2⟩ := h1.block hj
              exact absurd e (cells_ne e2 HxB.out (by decide))
            have hqb : ∀ x, (Value.slice vA m vc).ownBlock = some x → (rfQ r).ownBlock = some x := fun x hx => by
              rw [← Hvs.out, ← Hv.out, cutQ_block] at hx
              unfold rfQ
              rw [HrAc.out.1]
              exact hx
            have hxIC : wC.heap[gi]? = some (.cells #[.int .i64 it.na, .int .i64 it.de, .int .i64 it.rh] 30 (0, 0)) := tC.heap HxI.out Hgig.out
            have e1 : wC.cell? ⟨gi, 1, none⟩ = some (.int .i64 it.de) := row_cell hxIC 1
            have e2 : wC.cell? ⟨gi, 2, none⟩ = some (.int .i64 it.rh) := row_cell hxIC 2
            have hfl := Hfo.out
            have hit := hfl.items it (by rw [Hrq.out]; exact List.mem_cons_self)
            have hlp := box_ldPol hxC (by rw [← hr1]; exact hfl.pol)
            have hlc := box_ldClk hxC
            have ep : r1.f.p = r.f.p := by rw [← hr1]
            have ec : r1.f.c = r.f.c := by rw [← hr1]
            rw [ep] at hlp
            rw [ec] at hlc
            have KC := Lib.hid (RCharge_any r.f.p r.f.c (atF now) ph it.de it.rh wC hfl.pol hfl.clk (atF_bd now) hit.2.1 hit.2.2)
            obtain ⟨cw, hcw⟩ : ∃ cw, chargeF r.f.p r.f.c (atF now) ph it.de it.rh = cw := ⟨_, rfl⟩
            rw [hcw] at KC
            obtain ⟨r2, hr2⟩ : ∃ x, ({ r1 with f := { r1.f with c := cw } } : RF) = x := ⟨_, rfl⟩
            have hbC : Below w.heap.size w wC := HbB.out.trans (tC.below (fun j hj => by rw [hj]; exact Hgw.out) HbB.out.size)
            have hres : wC.heap[w.heap.size]? = some (.cells #[.slice none 0 0, .int .i64 0, .int .i64 0, .int .i64 0, .int .i64 0, .int .i64 0] 40 (0, 0)) := Hres.out wC tC
            have HxC := Lib.hid hxC; have HqC := Lib.hid hqC; have Hqb := Lib.hid hqb; have HxIC := Lib.hid hxIC; have HbC := Lib.hid hbC; have HrC := Lib.hid hres; have Hcw := Lib.hid hcw; have Hr1 := Lib.hid hr1; have Hr2 := Lib.hid hr2
            clear hxC hqC hqb hxIC hbC hres hcw hr1 hr2 tC hwc hfl hit ep ec
            go_upto_region 21 with (go_at_call 30; refine KC.out.mono ?_; rintro e wD ⟨rfl, hbD⟩; have hxD := (hbD.block g (Array.getElem?_eq_some_iff.1 HxC.out).1).trans HxC.out; obtain ⟨wE, rE, hxE, tE⟩ := box_clk hxD cw; have HbD := Lib.hid hbD; have HxE := Lib.hid hxE; have TE := Lib.hid tE; clear hbD hxD hxE tE)
            clear e1 e2 hlp hlc KC
            have hbE : Below w.heap.size w wE := HbC.out.trans ((HbD.out.mono HbC.out.size).trans (TE.out.below (fun j hj => by rw [hj]; exact Hgw.out) (Nat.le_trans HbC.out.size HbD.out.size)))
            have hxE : wE.heap[g]? = some (.cells (rfArr r2) 49 (0, 0)) := by rw [← Hr2.out]; exact HxE.out
            have hIE := TE.out.heap ((HbD.out.block gi (Array.getElem?_eq_some_iff.1 HxIC.out).1).trans HxIC.out) Hgig.out
            have hrE := TE.out.heap ((HbD.out.block _ (Array.getElem?_eq_some_iff.1 HrC.out).1).trans HrC.out) Hrg.out
            have hldF := ldFlow_row (w := wE.drew) hxE
            have hid0 : wE.cell? ⟨g, 0, none⟩ = some (.int .i64 r2.id) := row_cell hxE 0
            have hli := itm_run (w := wE.drew) hIE
            have HbE := Lib.hid hbE; have HxE2 := Lib.hid hxE; have HIE := Lib.hid hIE; have HrE := Lib.hid hrE
            have KW2 := Lib.hid (KW.out wE.drew hbE.drew r2)
            clear hbE hxE hIE hrE
            go_cut [146] (fun v wx => ∃ (A7 : Option Addr) (c7 : Nat) (w7 : World), v = .agg #[.slice A7 n c7, .int .i64 r2.id, .int .i64 it.na, .int .i64 it.de, .int .i64 it.rh, .int .i64 ph] ∧ wx = w7.setRow w.heap.size #[.slice A7 n c7, .int .i64 r2.id, .int .i64 it.na, .int .i64 it.de, .int .i64 it.rh, .int .i64 ph] ∧ RowsRet (y.set i r2) wE.drew A7 c7 w7)
            case first =>
              have HS := Lib.hid (fun (W : World) (hb : Below wE.heap.size wE W) => show (ldFlow (.pointer (some ⟨g, 0, none⟩))).run Tryz.prog W = .ok (.agg (rfArr r2)) W ∧ W.cell? ⟨g, 0, none⟩ = some (.int .i64 r2.id) ∧ (ldItm (.pointer (some ⟨gi, 0, none⟩))).run Tryz.prog W = .ok (.agg #[.int .i64 it.na, .int .i64 it.de, .int .i64 it.rh]) W from
                have hx := (hb.block g (Array.getElem?_eq_some_iff.1 HxE2.out).1).trans HxE2.out
                ⟨ldFlow_row hx, row_cell hx 0, itm_run ((hb.block gi (Array.getElem?_eq_some_iff.1 HIE.out).1).trans HIE.out)⟩)
              have HbD := Lib.hid (show Below wE.heap.size wE wE.drew from (Below.refl _ _).drew)
              clear hldF hid0 hli
              go_region_held3 (fun w' => (ldFlow (.pointer (some ⟨g, 0, none⟩))).run Tryz.prog w' = .ok (.agg (rfArr r2)) w' ∧ w'.cell? ⟨g, 0, none⟩ = some (.int .i64 r2.id) ∧ (ldItm (.pointer (some ⟨gi, 0, none⟩))).run Tryz.prog w' = .ok (.agg #[.int .i64 it.na, .int .i64 it.de, .int .i64 it.rh]) w')
                (first | exact HS.out _ HbD.out | exact HS.out _ Hb7.out | exact Hs8.out)
                (first | (go_at_call 19; refine KW2.out.mono ?_; rintro e w7 ⟨A7, c7, he, h7⟩; rw [List.length_set, Hl.out] at he; subst he; have hb7 : Below wE.heap.size wE w7 := Below.of_drew h7.2.2; have hr7 := (hb7.block w.heap.size (Array.getElem?_eq_some_iff.1 HrE.out).1).trans HrE.out; have hst7 := stPk_run hr7 (.slice A7 n c7) r2.id it ph; have hbd7 := fun W => bdPk_run W A7 n c7 r2.id it.na it.de it.rh ph; have tR7 : Turned (fun j => j = w.heap.size) w7 (w7.setRow w.heap.size #[.slice A7 n c7, .int .i64 r2.id, .int .i64 it.na, .int .i64 it.de, .int .i64 it.rh, .int .i64 ph]) := ⟨rfl, rfl, rfl, by simp, fun k _ hk => setRow_other _ _ k _ (fun e => hk e)⟩; have hx7 := (hb7.block g (Array.getElem?_eq_some_iff.1 HxE2.out).1).trans HxE2.out; have hi7 := (hb7.block gi (Array.getElem?_eq_some_iff.1 HIE.out).1).trans HIE.out; have hx8 := tR7.heap hx7 (cells_ne hx7 hr7 (by decide)); have Hs8 := Lib.hid (And.intro (ldFlow_row hx8) (And.intro (row_cell hx8 0) (itm_run (tR7.heap hi7 (cells_ne hi7 hr7 (by decide)))))); clear tR7 hx7 hi7 hx8; have H7 := Lib.hid h7; have Hb7 := Lib.hid hb7; have Hr7 := Lib.hid hr7; clear h7 hb7 hr7))
              all_goals
                go_wp2_with fail
                go_meet
                exact ⟨A7, c7, w7, rfl, rfl, H7.out⟩
            case rest =>
              obtain ⟨A7, c7, w7, rfl, rfl, h7⟩ := hcut
              have H7 := Lib.hid h7
              have Hb7 := Lib.hid (Below.of_drew h7.2.2)
              have Hr7 := Lib.hid ((Hb7.out.block w.heap.size (Array.getElem?_eq_some_iff.1 HrE.out).1).trans HrE.out)
              clear h7 hldF hid0 hli
              go_wp2_with fail
              refine bodyPost_ret (results_cell_row rfl _ _ w.heap.size 40 #[.slice A7 n c7, .int .i64 r2.id, .int .i64 it.na, .int .i64 it.de, .int .i64 it.rh, .int .i64 ph] (0, 0) _ rfl (setRow_heap _ _ _ _ _ (0, 0) Hr7.out) Tryz.underlying40 rfl pk_size) rfl ?_
              have tR : Turned (fun j => j = w.heap.size) w7 (w7.setRow w.heap.size #[.slice A7 n c7, .int .i64 r2.id, .int .i64 it.na, .int .i64 it.de, .int .i64 it.rh, .int .i64 ph]) := ⟨rfl, rfl, rfl, by simp, fun k _ hk => setRow_other _ _ k _ (fun e => hk e)⟩
              have hbR : Below w.heap.size w (w7.setRow w.heap.size #[.slice A7 n c7, .int .i64 r2.id, .int .i64 it.na, .int .i64 it.de, .int .i64 it.rh, .int .i64 ph]) := (HbE.out.trans (Hb7.out.mono HbE.out.size)).trans (tR.below (fun j hj => by rw [hj]; exact Nat.le_refl _) (Nat.le_trans HbE.out.size Hb7.out.size))
              have hrt : ∀ k cs T, w7.heap[k]? = some (.cells cs T (0, 0)) → T ≠ 40 → ¬ k = w.heap.size := fun k cs T hk hT e => cells_ne hk Hr7.out hT e
              have e1 : r2.id = r.id := by rw [← Hr2.out, ← Hr1.out]
              have e2 : r2.f = takenFl r.f (atF now) ph it rest := by rw [← Hr2.out, ← Hr1.out, ← Hcw.out]; rfl
              have e3 : rfQ r2 = .slice vA m vc := by unfold rfQ; rw [← Hr2.out, ← Hr1.out, ← Hm.out]
              refine ⟨r2.id, ph, it, y.set i r2, A7, c7, by rw [List.length_set, Hl.out], .inr ⟨i, r, r2, rest, Hri.out, HN.out, e1, Hrq.out, rfl, e1, e2, ?_, ?_⟩, ?_, H7.out.2.1, hbR⟩
              · rw [e3]
                have q1 : QAt wE 0 (.slice vA m vc) rest := (HqC.out.below HbD.out).turned TE.out fun j hj e => by
                  obtain ⟨_, cs, e4⟩ := (HqC.out.below HbD.out).block hj
                  have := TE.out
                  exact absurd e (cells_ne e4 ((HbD.out.block g (Array.getElem?_eq_some_iff.1 HxC.out).1).trans HxC.out) (by decide))
                refine (q1.below Hb7.out).turned tR fun j hj e => ?_
                obtain ⟨_, cs, e4⟩ := (q1.below Hb7.out).block hj
                exact hrt j cs _ e4 (by decide) e
              · rw [e3]
                exact Hqb.out
              · exact H7.out.1.turned tR fun k cs hk e => hrt k cs _ hk (by decide) e
end Go.Proofs.YtbfjakchgmdldaaGreat
