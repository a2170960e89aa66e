/-
  Contract of the device's Write. Conditions: a device, fewer than 1,000,000 writes that wait, bytes that lie apart from it.
-/
import Derived.Test.YtjekcaoonaniaaaGreatSecD
import Derived.Deep.RegionHeld3
import Derived.Deep.AppendLies
import Derived.Deep.RegionLaw
namespace Go.Proofs.YtjekcaoonaniaaaGreat
open Go.ChangeShapes Go.WideShapes Go.ChangeAt Go.RowKit
set_option linter.unusedVariables false

theorem run_arr (a : Option Addr) (c : Nat) (w : World) : (Instr.arrayAt 94 (.slice a 64 c)).run Tryz.prog w = .ok (.pointer a) w := by
  simp [Instr.arrayAt, run_underlying arr_und]

theorem z65_size : z65.cells.size = 65 := zw_size
theorem zw_ne : ¬ zw = #[] := fun e => by have := zw_size; rw [e] at this; cases this
theorem fold_set (cs : List Value) : ∀ (k : Nat) (Z : Array Value) (pre : List Value), pre.length = 1 + k → pre.length + cs.length = Z.size → Z.toList.take pre.length = pre →
    (List.foldl (fun (cs : Array Value) (x : Value × Nat) => cs.setIfInBounds (1 + x.snd) x.fst) Z (cs.zipIdx k)) = (pre ++ cs).toArray := by
  induction cs with
  | nil =>
    intro k Z pre h1 h2 h3
    simp only [List.zipIdx_nil, List.foldl_nil, List.append_nil]
    rw [List.take_of_length_le (by simp at h2 ⊢; omega)] at h3
    rw [← h3]
  | cons c cs ih =>
    intro k Z pre h1 h2 h3
    simp only [List.zipIdx_cons, List.foldl_cons]
    rw [ih (k + 1) (Z.setIfInBounds (1 + k) c) (pre ++ [c]) (by simp; omega) (by simp at h2 ⊢; omega) ?_]
    · simp
    · rw [Array.toList_setIfInBounds, List.length_append, List.length_singleton, List.take_succ_eq_append_getElem (by simp at h2 ⊢; omega)]
      rw [List.take_set_of_le (by omega), h3]
      congr 1
      simp [h1]
theorem zw_fold (i : Int) (cs : List Value) (h : cs.length = 64) : (List.foldl (fun (cs : Array Value) (x : Value × Nat) => cs.setIfInBounds (1 + x.snd) x.fst) (zw.setIfInBounds 0 (.int .i64 i)) cs.zipIdx) = (.int .i64 i :: cs).toArray := by
  refine (fold_set cs 0 _ [.int .i64 i] rfl (by simp [zw_size, h]) ?_).trans rfl
  simp [zw]

/-- a slice of one write, made: behind a name, so that no walk opens it -/
def oneWrite (parts : Array (Nat × Value)) : Sem Value := Instr.buildSlice 52 1 parts
theorem oneWrite_eq (parts : Array (Nat × Value)) : Instr.buildSlice 52 1 parts = oneWrite parts := rfl
theorem fold_all (cs : List Value) : ∀ (k : Nat) (Z : Array Value) (pre : List Value), pre.length = k → pre.length + cs.length = Z.size → Z.toList.take pre.length = pre →
    (List.foldl (fun (cs : Array Value) (x : Value × Nat) => cs.setIfInBounds x.snd x.fst) Z (cs.zipIdx k)) = (pre ++ cs).toArray := by
  induction cs with
  | nil =>
    intro k Z pre h1 h2 h3
    simp only [List.zipIdx_nil, List.foldl_nil, List.append_nil]
    rw [List.take_of_length_le (by simp at h2 ⊢; omega)] at h3
    rw [← h3]
  | cons c cs ih =>
    intro k Z pre h1 h2 h3
    simp only [List.zipIdx_cons, List.foldl_cons]
    rw [ih (k + 1) (Z.setIfInBounds k c) (pre ++ [c]) (by simp; omega) (by simp at h2 ⊢; omega) ?_]
    · simp
    · rw [Array.toList_setIfInBounds, List.length_append, List.length_singleton, List.take_succ_eq_append_getElem (by simp at h2 ⊢; omega)]
      rw [List.take_set_of_le (by omega), h3]
      congr 1
      simp [h1]
theorem fill_one (Z cells : Array Value) (hZ : Z.size = 65) (h : cells.size = 65) : Instr.fill (fun i => some (i * 65, 65)) Z [(0, .agg cells)] = some cells := by
  have hf := fold_all cells.toList 0 Z [] rfl (by simp [h, hZ]) rfl
  have hg : Array.foldl (fun (cs : Array Value) (x : Value × Nat) => cs.setIfInBounds x.2 x.1) Z cells.zipIdx = cells := by
    rw [← Array.foldl_toList]
    simpa using hf
  have e1 : (Value.agg cells).cells = cells := rfl
  have hs : cells.zipIdx.size = 65 := by simp [h]
  rw [hs] at hg
  simp [Instr.fill, e1, h, hZ]
  exact hg
theorem oneWrite_run (cells : Array Value) (h : cells.size = 65) (w : World) : (oneWrite #[(0, .agg cells)]).run Tryz.prog w = .ok (.slice (some ⟨w.heap.size, 0, none⟩) 1 1) (w.alloc (.cells cells 96)) := by
  unfold oneWrite Instr.buildSlice
  obtain ⟨i, hi, hs⟩ := Option.map_eq_some_iff.1 wr_size
  have hz : (sizeOf 96).run Tryz.prog w = .ok 65 w := by simp [sizeOf, typeInfo, hi, hs]
  simp only [Sem.run_bind, run_underlying Tryz.underlying52, Result.andThen_ok, hz]
  rw [if_neg (by omega), if_neg (by omega)]
  simp only [Sem.run_bind, zw_run, Result.andThen_ok, Sem.run_pure, Value.cells]
  rw [show 1 * 65 = 65 from rfl, fill_one _ cells (by simp) h]
  simp [newRow]
attribute [local go_sem ↓] oneWrite_eq ldArr_eq

/-- an append to the device's writes, stored back -/
theorem MovedD.app {w w1 : World} {B g s : Nat} {r : Option Nat} {d : Dv} {p : Nat × List UInt8} {A : Option Addr} {c k cap : Nat} (h : IsD w B g s r d) (hp : p.1 < d.n ∧ p.2.length = 64)
    (hh : w.heap[g]? = some (.cells #[.slice (some ⟨s, 0, none⟩) d.n d.n, .slice A d.L.length c, .int .i64 d.fuse, .bool d.down] 54 (0, 0)))
    (hr : (Value.slice A d.L.length c).ownBlock = r) {w0 : World} (h0 : Below w.heap.size w w0) (hg : w0.grownBy w1 (Value.slice A d.L.length c).ownBlock) (hat : (Value.slice A d.L.length c).ownBlock = some k ∨ k = w.heap.size ∨ k = w0.heap.size)
    (hown : w1.ownsRow B 96 65 (.slice (some ⟨k, 0, none⟩) (d.L.length + 1) cap) (d.L.length + 1) (wcells d.L ++ wcell p)) :
    MovedD B g s r { d with L := d.L ++ [p] } w (w1.setCell ⟨g, 1, none⟩ (.slice (some ⟨k, 0, none⟩) (d.L.length + 1) cap)) := by
  have hl := h.lt
  obtain ⟨h1, h2, h3, h4, h5, h6, h7, _, _, _, _, _⟩ := h
  have hkw : (Value.slice A d.L.length c).ownBlock = some k ∨ w.heap.size ≤ k := by
    rcases hat with e | e | e
    · exact .inl e
    · exact .inr (by omega)
    · exact .inr (by have := h0.size; omega)
  have hkg : k ≠ g := fun e => by
    subst e
    rcases hkw with e | e
    · exact h5 (by rw [← hr, e])
    · omega
  have hks : k ≠ s := fun e => by
    subst e
    rcases hkw with e | e
    · exact h6 (by rw [← hr, e])
    · omega
  have t1 : Turned (fun k => k = g ∨ k = s ∨ r = some k) w w1 := (Turned.of_below h0 (p := fun k => k = g ∨ k = s ∨ r = some k)).trans (Turned.of_grown hg (p := fun k => (Value.slice A d.L.length c).ownBlock = some k) fun k hk => hk) (fun _ e => e) (fun _ _ e => .inr (.inr (by rw [← hr]; exact e)))
  have hw1 : w1.heap[g]? = some (.cells #[.slice (some ⟨s, 0, none⟩) d.n d.n, .slice A d.L.length c, .int .i64 d.fuse, .bool d.down] 54 (0, 0)) := by
    rw [hg.block g (Nat.lt_of_lt_of_le hl.1 h0.size) (fun e => h5 (by rw [← hr, ← e])), h0.block g hl.1]
    exact hh
  have hs1 : w1.heap[s]? = some (.cells (bytesV d.S).toArray 94 (0, 0)) := by
    rw [hg.block s (Nat.lt_of_lt_of_le hl.2.1 h0.size) (fun e => h6 (by rw [← hr, ← e])), h0.block s hl.2.1]
    exact h7
  have t2 := Turned.setCell (Turned.refl (fun k => k = g) w1) (b := ⟨g, 1, none⟩) (fun _ => rfl) (.slice (some ⟨k, 0, none⟩) (d.L.length + 1) cap)
  refine ⟨some k, ⟨⟨h1.n, h1.S, ?_, h1.lo, h1.hi⟩, h2, h3, h4, by simpa using hkg, by simpa using hks, t2.heap hs1 (fun e => h4 e.symm), some ⟨k, 0, none⟩, cap, ?_, ?_, rfl⟩, fun j hj => ?_, t1.setCell (fun _ => .inl rfl) _⟩
  · intro q hq
    simp only [List.mem_append, List.mem_singleton] at hq
    rcases hq with hq | rfl
    · exact h1.L q hq
    · exact hp
  · rw [row_set hw1, List.length_append]; rfl
  · rw [wcells_snoc, List.length_append]
    exact own65_turned t2 hown fun j hj e => by
      subst e
      injection hj with hj
      exact hkg hj
  · injection hj with hj
    subst hj
    rw [← hr]
    exact hkw

theorem Dv.writeE_down {d : Dv} (h : d.burnt.down = true) (i : Int) (bs : List UInt8) : d.writeE i bs = 16 ∧ d.write i bs = d.burnt := by unfold Dv.writeE Dv.write; rw [if_pos h, if_pos h]; exact ⟨rfl, rfl⟩
theorem Dv.writeE_arg {d : Dv} (h : d.burnt.down = false) {i : Int} {bs : List UInt8} (hi : ¬ (0 ≤ i ∧ i < d.n ∧ bs.length = 64)) : d.writeE i bs = 1 ∧ d.write i bs = d.burnt := by
  have h' : ¬ d.burnt.down = true := by rw [h]; simp
  unfold Dv.writeE Dv.write; rw [if_neg h', if_neg h', if_neg hi, if_neg hi]; exact ⟨rfl, rfl⟩
theorem Dv.writeE_ok {d : Dv} (h : d.burnt.down = false) {i : Int} {bs : List UInt8} (hi : 0 ≤ i ∧ i < d.n ∧ bs.length = 64) : d.writeE i bs = 0 ∧ d.write i bs = { d.burnt with L := d.burnt.L ++ [(i.toNat, bs)] } := by
  have h' : ¬ d.burnt.down = true := by rw [h]; simp
  unfold Dv.writeE Dv.write; rw [if_neg h', if_neg h', if_pos hi, if_pos hi, Dv.burnt_L]; exact ⟨rfl, rfl⟩

theorem cell_one (i : Int) (bs : List UInt8) : ∀ u ∈ (Value.int .i64 i :: bytesV bs).toArray.toList, u.oneCell' = true := by
  intro u hu
  simp only [List.mem_cons] at hu
  rcases hu with rfl | hu
  · rfl
  · exact bytes_one _ u hu
theorem hold_g {w w0 w' : World} {g gb ob : Nat} {bs : List UInt8} {v : Value} {row : Option Nat} (hb : Below w.heap.size w w0) (hg : w0.grownBy w' row) (c1 : w.cell? ⟨g, 1, none⟩ = some v) (f1 : w.frozen? ⟨g, 1, none⟩ = false) (hr : w.rangeAt gb ob (bytesV bs)) (h1 : row ≠ some g) (h2 : row ≠ some gb) :
    w'.cell? ⟨g, 1, none⟩ = some v ∧ w'.frozen? ⟨g, 1, none⟩ = false ∧ w'.rangeAt gb ob (bytesV bs) := by
  have hlt := World.block_lt_of_cell? w _ c1
  have hs := hb.size
  refine ⟨?_, ?_, fun j v hv => ?_⟩
  · rw [hg.cell_far ⟨g, 1, none⟩ (by show g < _; simp at hlt; omega) (Ne.symm h1), hb.cell (p := ⟨g, 1, none⟩) hlt]; exact c1
  · rw [hg.frozen_far ⟨g, 1, none⟩ (by show g < _; simp at hlt; omega) (Ne.symm h1), hb.frozen (p := ⟨g, 1, none⟩) hlt]; exact f1
  · have := hr j v hv
    have hl2 := World.block_lt_of_cell? w _ this
    rw [hg.cell_far ⟨gb, ob + j, none⟩ (by show gb < _; simp at hl2; omega) (Ne.symm h2), hb.cell (p := ⟨gb, ob + j, none⟩) hl2]
    exact this

theorem hold_w {w w' : World} {g gb ob : Nat} {bs : List UInt8} {v : Value} (hb : Below w.heap.size w w') (c1 : w.cell? ⟨g, 1, none⟩ = some v) (f1 : w.frozen? ⟨g, 1, none⟩ = false) (hr : w.rangeAt gb ob (bytesV bs)) :
    w'.cell? ⟨g, 1, none⟩ = some v ∧ w'.frozen? ⟨g, 1, none⟩ = false ∧ w'.rangeAt gb ob (bytesV bs) := by
  have hlt := World.block_lt_of_cell? w _ c1
  refine ⟨by rw [hb.cell (p := ⟨g, 1, none⟩) hlt]; exact c1, by rw [hb.frozen (p := ⟨g, 1, none⟩) hlt]; exact f1, fun j v hv => ?_⟩
  have := hr j v hv
  rw [hb.cell (p := ⟨gb, ob + j, none⟩) (World.block_lt_of_cell? w _ this)]
  exact this

set_option maxRecDepth 100000 in
set_option maxHeartbeats 1600000 in
theorem Write_any (B g s : Nat) (r : Option Nat) (d : Dv) (i : Int) (A2 : Option Addr) (m c2 : Nat) (bs : List UInt8) (w : World) (h : IsD w B g s r d) (hL : d.L.length < 1000000) (hi1 : -9223372036854775808 ≤ i) (hi2 : i ≤ 9223372036854775807)
    (hm : bs.length = m) (hmm : m ≤ 1000000) (hBw : B ≤ w.heap.size) (hs : Seen w A2 (bytesV bs)) (hap : ∀ gb ob, A2 = some ⟨gb, ob, none⟩ → gb ≠ g ∧ gb ≠ s ∧ r ≠ some gb) :
    Calls Tryz.prog 61 #[.pointer (some ⟨g, 0, none⟩), .int .i64 i, .slice A2 m c2] w fun e w' => e = .returned (.int .i64 (d.writeE i bs : Int)) ∧ MovedD B g s r (d.write i bs) w w' := by
  have H := Lib.hid h; clear h
  have Hs := Lib.hid hs; clear hs
  have Hap := Lib.hid hap; clear hap
  have Hm := Lib.hid hm; clear hm
  have HL := Lib.hid hL; clear hL
  obtain ⟨we, hwe⟩ : ∃ we, d.writeE i bs = we := ⟨_, rfl⟩
  rw [hwe]
  have Hwe := Lib.hid hwe; clear hwe
  obtain ⟨d1, hd1⟩ : ∃ d1, d.burnt = d1 := ⟨_, rfl⟩
  have Hd1 := Lib.hid hd1
  cases hdn : d1.down with
  | true =>
    obtain ⟨e1, e2⟩ := Dv.writeE_down (d := d) (by rw [hd1]; exact hdn) i bs
    rw [Hwe.out] at e1
    subst e1
    have E2 := Lib.hid e2; clear e2 hd1
    have Hdn := Lib.hid hdn; clear hdn
    go_enter Tryz.func61, Tryz.ntmps61
    go_wp2_with (go_at_call 80; refine (burn_any B g s r d w H.out).mono ?_; rw [Hd1.out, Hdn.out]; rintro e w1 ⟨rfl, hmv⟩; have Hmv := Lib.hid hmv; clear hmv)
    go_ret
    rw [E2.out, Hd1.out]
    exact ⟨rfl, Hmv.out⟩
  | false =>
    have hn1 : d1.n = d.n := by rw [← hd1]; exact Dv.burnt_n d
    have hL1 : d1.L = d.L := by rw [← hd1]; exact Dv.burnt_L d
    by_cases hok : 0 ≤ i ∧ i < d.n ∧ m = 64
    · obtain ⟨e1, e2⟩ := Dv.writeE_ok (d := d) (by rw [hd1]; exact hdn) (i := i) (bs := bs) (by rw [Hm.out]; exact hok)
      rw [Hwe.out] at e1
      subst e1
      have E2 := Lib.hid e2; clear e2 hd1
      have Hdn := Lib.hid hdn; clear hdn
      have hhas : d1.has i = true := by unfold Dv.has; rw [decide_eq_true_iff, hn1]; exact ⟨hok.1, hok.2.1⟩
      have Hhas := Lib.hid hhas; clear hhas
      have hm64 := hok.2.2
      subst hm64
      have hp : i.toNat < d1.n ∧ bs.length = 64 := ⟨by rw [hn1]; omega, Hm.out⟩
      have hiN : ((i.toNat : Nat) : Int) = i := by omega
      have Hp := Lib.hid hp; clear hp
      have HiN := Lib.hid hiN; clear hiN
      have hL1m : d1.L.length < 1000000 := by rw [hL1]; exact HL.out
      have HL1 := Lib.hid hL1m; clear hL1m
      clear hn1 hL1 hok
      obtain ⟨i0, hi0, hz0, hz1, hz2⟩ := info_parts wr_info
      have Hi0 := Lib.hid (And.intro hi0 (And.intro hz0 (And.intro hz1 hz2)))
      clear hi0 hz0 hz1 hz2
      go_enter Tryz.func61, Tryz.ntmps61
      go_wp2_with (first | (go_at_call 80; refine (burn_any B g s r d w H.out).mono ?_; rw [Hd1.out, Hdn.out]; rintro e w1 ⟨rfl, hmv⟩; have Hmv := Lib.hid hmv; obtain ⟨r1, hd1, hrr, htt⟩ := hmv; have Hd := Lib.hid hd1; have Hrr := Lib.hid hrr; have Htt := Lib.hid htt; clear hd1 hrr htt) | (go_at_call 49; refine (has_any B g s r1 d1 i w1 Hd.out).mono ?_; rw [Hhas.out]; rintro e w2 ⟨rfl, rfl⟩))
      have hse : ∃ gb ob, A2 = some ⟨gb, ob, none⟩ ∧ w1.rangeAt gb ob (bytesV bs) ∧ gb ≠ g ∧ r1 ≠ some gb := by
        rcases Hs.out with e | ⟨gb, ob, hA, hc⟩
        · have := congrArg List.length e
          rw [bytes_length, Hm.out] at this
          cases this
        · obtain ⟨a1, a2, a3⟩ := Hap.out gb ob hA
          have hlt : gb < w.heap.size := by
            have h0 : (bytesV bs)[0]? = some ((bytesV bs)[0]'(by rw [bytes_length, Hm.out]; omega)) := List.getElem?_eq_getElem _
            exact World.block_lt_of_cell? w _ (hc 0 _ h0)
          refine ⟨gb, ob, hA, fun k v hv => Htt.out.cell (hc k v hv) ?_, a1, fun e => ?_⟩
          · rintro (e | e | e)
            · exact a1 e
            · exact a2 e
            · exact a3 e
          · rcases Hrr.out gb e with e | e
            · exact a3 e
            · omega
      obtain ⟨gb, ob, rfl, hra, hag, har⟩ := hse
      have Hag := Lib.hid (And.intro hag har); clear hag har
      have hbl : (bytesV bs).length = 64 := by rw [bytes_length]; exact Hm.out
      have hd1 := Hd.out
      obtain ⟨hok, hBg, hBs, hgs, hrg, hrs, hS, A, c, hh, hown, hr1⟩ := hd1
      have c1 : w1.cell? ⟨g, 1, none⟩ = some (.slice A d1.L.length c) := row_cell hh 1
      have f1 := row_frozen hh 1
      have Hh := Lib.hid hh; have Hown := Lib.hid hown; have Hr1 := Lib.hid hr1; have Hrg := Lib.hid hrg
      have Hsz := Lib.hid (show B ≤ w1.heap.size from Nat.le_trans hBw Htt.out.size)
      clear hok hS hh hown hr1 hgs hrg hrs
      have hArr := run_arr
      have hU := arr_und
      have hZ := zw_run
      have hZ1 := zw_size
      have hZ2 := zw_ne
      have hZ3 := zw_fold i (bytesV bs) hbl
      obtain ⟨cells, hcells⟩ : ∃ cells, (Value.int .i64 i :: bytesV bs).toArray = cells := ⟨_, rfl⟩
      rw [hcells] at hZ3
      have hc65 : cells.size = 65 := by rw [← hcells]; simp [hbl]
      have hone : ∀ u ∈ cells.toList, u.oneCell' = true := by rw [← hcells]; exact cell_one i bs
      have Hone := Lib.hid hone; clear hone
      have HownA := Lib.hid ((Hown.out.alloc (.cells cells 96)).drew)
      have Hnews := Lib.hid (World.news_of_block (w := (w1.alloc (.cells cells 96)).drew) (B := w1.heap.size) (cs := cells) (heap_alloc_new w1 _))
      have Hlen := Lib.hid (show cells.toList.length = 1 * 65 by rw [Array.length_toList, hc65])
      have Hb1 := Lib.hid (show d1.L.length + 1 ≤ maxLen by have := HL1.out; unfold maxLen; omega)
      have Hb2 := Lib.hid (show (d1.L.length + 1) * 72 ≤ 140737488355328 by have := HL1.out; omega)
      have HszA := Lib.hid (show B ≤ (w1.alloc (.cells cells 96)).drew.heap.size by have := Hsz.out; simp; omega)
      have HH := Lib.hid (show (w1.alloc (.cells cells 96)).drew.heap.size = w1.heap.size + 1 by simp)
      have Hcells := Lib.hid hcells; clear hcells
      have hZ4 := oneWrite_run cells hc65
      have hI : (Tryz.prog.info? 94).map (·.size) = some (bytesV bs).length := by rw [hbl]; exact arr_size
      have hLd := ldArr_run (w := w1.drew) (by simpa using hra) Hm.out
      have hca := (hold_w ((Below.refl _ _).alloc (Nat.le_refl _) (.cells cells 96)) c1 f1 hra).1
      go_region_law((refine step_append_lies _ (by rfl) (.tmp 25) (.tmp 31) _ (by rfl) B 96 i0 z65 65 72 Tryz.underlying52 Hi0.out.1 Hi0.out.2.1 Hi0.out.2.2.1 Hi0.out.2.2.2 z65_size (by omega) (.slice A d1.L.length c) d1.L.length (wcells d1.L) (by rfl) HownA.out ⟨w1.heap.size, 0, none⟩ 1 1 cells.toList (by rfl) Hlen.out Hnews.out Hone.out (by omega) Hb1.out Hb2.out HszA.out (w1.heap.size + 1) HH.out ?_; intro k2 cap2 w2 hown2 hgrow2 hat2 hlt2; have hcf := hold_g ((Below.refl _ _).alloc (Nat.le_refl _) (.cells cells 96)).drew hgrow2 c1 f1 hra (by rw [Hr1.out]; exact Hrg.out) (by rw [Hr1.out]; exact Hag.out.2); have hcc2 := hcf.1; have hff2 := hcf.2.1; clear hcf; have Hown2 := Lib.hid hown2; have Hgrow2 := Lib.hid hgrow2; have Hat2 := Lib.hid hat2; clear hown2 hgrow2 hat2))
      all_goals
        go_wp2
        go_ret
        rw [E2.out, Hd1.out]
        refine ⟨rfl, MovedD.step Hrr.out Htt.out ?_⟩
        refine MovedD.app (p := (i.toNat, bs)) Hd.out Hp.out Hh.out Hr1.out ((Below.refl _ _).alloc (Nat.le_refl _) (.cells cells 96)).drew Hgrow2.out ?_ ?_
        · rcases Hat2.out with e | e
          · exact .inl e
          · exact .inr (.inr (by rw [e]; simp))
        · have := Hown2.out
          rw [← Hcells.out] at this
          unfold wcell
          rw [HiN.out]
          exact this
    · obtain ⟨e1, e2⟩ := Dv.writeE_arg (d := d) (by rw [hd1]; exact hdn) (i := i) (bs := bs) (by rw [Hm.out]; exact hok)
      rw [Hwe.out] at e1
      subst e1
      have E2 := Lib.hid e2; clear e2 hd1
      have Hdn := Lib.hid hdn; clear hdn
      cases hhas : d1.has i with
      | false =>
        have Hhas := Lib.hid hhas; clear hhas
        clear hn1 hL1
        go_enter Tryz.func61, Tryz.ntmps61
        go_wp2_with (first | (go_at_call 80; refine (burn_any B g s r d w H.out).mono ?_; rw [Hd1.out, Hdn.out]; rintro e w1 ⟨rfl, hmv⟩; have Hmv := Lib.hid hmv; obtain ⟨r1, hd1, _, _⟩ := hmv; have Hd := Lib.hid hd1; clear hd1) | (go_at_call 49; refine (has_any B g s r1 d1 i w1 Hd.out).mono ?_; rw [Hhas.out]; rintro e w2 ⟨rfl, rfl⟩))
        go_ret
        rw [E2.out, Hd1.out]
        exact ⟨rfl, Hmv.out⟩
      | true =>
        have hm64 : ¬ m = 64 := fun e => hok (by
          unfold Dv.has at hhas
          have := of_decide_eq_true hhas
          rw [hn1] at this
          exact ⟨this.1, this.2, e⟩)
        have hm64' : ((m : Int) != 64) = true := by simp; omega
        have Hhas := Lib.hid hhas; clear hhas hm64
        clear hn1 hL1 hok
        go_enter Tryz.func61, Tryz.ntmps61
        go_wp2_with (first | (go_at_call 80; refine (burn_any B g s r d w H.out).mono ?_; rw [Hd1.out, Hdn.out]; rintro e w1 ⟨rfl, hmv⟩; have Hmv := Lib.hid hmv; obtain ⟨r1, hd1, _, _⟩ := hmv; have Hd := Lib.hid hd1; clear hd1) | (go_at_call 49; refine (has_any B g s r1 d1 i w1 Hd.out).mono ?_; rw [Hhas.out]; rintro e w2 ⟨rfl, rfl⟩))
        go_ret
        rw [E2.out, Hd1.out]
        exact ⟨rfl, Hmv.out⟩
end Go.Proofs.YtjekcaoonaniaaaGreat
