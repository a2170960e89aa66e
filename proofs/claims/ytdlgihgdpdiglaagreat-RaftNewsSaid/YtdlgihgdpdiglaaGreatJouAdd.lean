/-
  Contract of journal.Add.
-/
import Derived.Test.YtdlgihgdpdiglaaGreatJJouA
import Derived.Deep.DeepCutAuto
import Derived.StillTailTactics
import Derived.Deep.RegionHeld3
import Derived.Deep.RegionLawGrows
namespace Go.Proofs.YtdlgihgdpdiglaaGreat
open Go.ChangeShapes Go.WideShapes Go.ChangeAt Go.RowKit
set_option linter.unusedVariables false

theorem wrap_in (n : Int) (h1 : -9223372036854775808 ≤ n) (h2 : n ≤ 9223372036854775807) : IntKind.i64.wrap n = n := by
  rw [IntKind.wrap_i64]; omega
theorem run_arr_long (a : Option Addr) (n c : Nat) (h : 64 ≤ n) (w : World) : (Instr.arrayAt 184 (.slice a n c)).run Tryz.prog w = .ok (.pointer a) w := by
  unfold Instr.arrayAt
  simp [Sem.run_bind, run_underlying arr_und]
  omega
/-- a start stored: behind a name -/
def stSt (p v : Value) : Sem Unit := Instr.storeAt 256 p v
theorem stSt_eq (p v : Value) : Instr.storeAt 256 p v = stSt p v := rfl
def ldSt (p : Value) : Sem Value := Instr.loadAt 256 p
theorem ldSt_eq (p : Value) : Instr.loadAt 256 p = ldSt p := rfl
theorem st_size : (Tryz.prog.info? 256).map (·.size) = some 65 := by kernel_rfl
theorem st_info : (Tryz.prog.info? 256).map (fun i => (i.zero, i.size, i.bytes)) = some (some z65, 65, 72) := by kernel_rfl
theorem zst_run (w : World) : (zeroValue 256).run Tryz.prog w = .ok (.agg zw) w := (zero_of_info (n := 65) (v := z65) (by kernel_rfl)).1 w
theorem ldSt_run {w : World} {b o : Nat} {cs : List Value} (h : w.rangeAt b o cs) (h65 : cs.length = 65) : (ldSt (.pointer (some ⟨b, o, none⟩))).run Tryz.prog w = .ok (.agg cs.toArray) w :=
  run_loadAt_mid w b o _ _ _ h Tryz.underlying256 rfl (by rw [st_size, h65])
theorem stSt_run (w : World) (cs cs' : Array Value) (h65 : cs.size = 65) (h65' : cs'.size = 65) (h1 : cs'.all (·.oneCell') = true) :
    (stSt (.pointer (some ⟨w.heap.size, 0, none⟩)) (.agg cs')).run Tryz.prog (w.alloc (.cells cs 256)) = .ok () (w.alloc (.cells cs' 256)) :=
  run_storeAt_new w _ cs cs' (by rw [st_size, h65']) (by omega) h1
attribute [local go_sem ↓] ldArr_eq stSt_eq ldSt_eq

/-- Form's error alone, and its form alone -/
theorem Form_err (gen k : Nat) (A : Option Addr) (m c : Nat) (t : List UInt8) (w : World) (hg : gen ≤ 1099511627776) (hk : k ≤ 1099511627776) (hm : t.length = m) (hs : Seen w A (bytesV t)) (x : Int) (hx : (formE (gen : Int) (k : Int) t : Int) = x) (hne : formE (gen : Int) (k : Int) t ≠ 0) :
    Calls Tryz.prog 132 #[.int .i64 (gen : Int), .int .i64 (k : Int), .slice A m c] w fun en w' => en = .returned (.tuple #[.slice none 0 0, .int .i64 x]) ∧ Below w.heap.size w w' := by
  refine (Form_any (gen : Int) (k : Int) A m c t w (by omega) (by omega) (by omega) (by omega) hm hs).mono ?_
  rintro e w1 ⟨hb1, (⟨_, rfl⟩ | ⟨h0, _⟩)⟩
  · exact ⟨by rw [hx], hb1⟩
  · exact absurd h0 hne
theorem Form_ok (gen k : Nat) (A : Option Addr) (m c : Nat) (t : List UInt8) (w : World) (hg : gen ≤ 1099511627776) (hk : k ≤ 1099511627776) (hm : t.length = m) (hs : Seen w A (bytesV t)) (N : Nat) (hN : 64 * manyOf gen k t = N) (h0 : formE (gen : Int) (k : Int) t = 0) :
    Calls Tryz.prog 132 #[.int .i64 (gen : Int), .int .i64 (k : Int), .slice A m c] w fun en w' => ∃ b, en = .returned (.tuple #[.slice (some ⟨b, 0, none⟩) N N, .int .i64 0]) ∧ w.heap.size ≤ b ∧ w'.heap[b]? = some (.cells (bytesV (formX 1 gen k t)).toArray 5 (0, 0)) ∧ Below w.heap.size w w' := by
  refine (Form_any (gen : Int) (k : Int) A m c t w (by omega) (by omega) (by omega) (by omega) hm hs).mono ?_
  rintro e w1 ⟨hb1, (⟨hne, _⟩ | ⟨_, b, rfl, hbb, hblk⟩)⟩
  · exact absurd h0 hne
  · exact ⟨b, by rw [Int.toNat_natCast, Int.toNat_natCast, hN], hbb, hblk, hb1⟩
theorem two_kept {w w' : World} {j : Nat} {u v : Value} (hb : Below w.heap.size w w') (c1 : w.cell? ⟨j, 1, none⟩ = some u) (c2 : w.cell? ⟨j, 2, none⟩ = some v) : w'.cell? ⟨j, 1, none⟩ = some u ∧ w'.cell? ⟨j, 2, none⟩ = some v :=
  ⟨(hb.cell (block_lt_of_cell c1)).trans c1, (hb.cell (block_lt_of_cell c2)).trans c2⟩

def oneStart (parts : Array (Nat × Value)) : Sem Value := Instr.buildSlice 241 1 parts
theorem oneStart_eq (parts : Array (Nat × Value)) : Instr.buildSlice 241 1 parts = oneStart parts := rfl
theorem oneStart_run (cells : Array Value) (h : cells.size = 65) (w : World) : (oneStart #[(0, .agg cells)]).run Tryz.prog w = .ok (.slice (some ⟨w.heap.size, 0, none⟩) 1 1) (w.alloc (.cells cells 256)) := by
  unfold oneStart Instr.buildSlice
  obtain ⟨i, hi, hs⟩ := Option.map_eq_some_iff.1 st_size
  have hz : (sizeOf 256).run Tryz.prog w = .ok 65 w := by simp [sizeOf, typeInfo, hi, hs]
  simp only [Sem.run_bind, run_underlying Tryz.underlying241, Result.andThen_ok, hz]
  rw [if_neg (by omega), if_neg (by omega)]
  simp only [Sem.run_bind, zst_run, Result.andThen_ok, Sem.run_pure, Value.cells]
  rw [show 1 * 65 = 65 from rfl, fill_one _ cells (by simp) h]
  simp [newRow]
attribute [local go_sem ↓] oneStart_eq

/-- an append to what isn't whole as yet, and the numbers, stored back -/
theorem MovedJ.app {w w0 w1 : World} {B g s : Nat} {r : Option Nat} {j : Nat} {q : Option Nat} {J : Jn} {p : Nat × List UInt8} {A : Option Addr} {c b cap k' n' : Nat} (h : IsJ w B g s r j q J)
    (hh : w.heap[j]? = some (.cells #[.pointer (some ⟨g, 0, none⟩), .int .i64 (J.gen : Int), .int .i64 (J.k : Int), .int .i64 (J.next : Int), .int .i64 (J.fin : Int), .slice A J.L.length c, .bool J.dead] 243 (0, 0)))
    (hq : (Value.slice A J.L.length c).ownBlock = q) (h0 : Below w.heap.size w w0) (hg : w0.grownBy w1 (Value.slice A J.L.length c).ownBlock) (hat : (Value.slice A J.L.length c).ownBlock = some b ∨ w.heap.size ≤ b)
    (hown : w1.ownsRow B 256 65 (.slice (some ⟨b, 0, none⟩) (J.L.length + 1) cap) (J.L.length + 1) (wcells J.L ++ wcell p)) (hok : ({ J with L := J.L ++ [p], k := k', next := n' } : Jn).Ok) :
    MovedJ B g s r j q { J with L := J.L ++ [p], k := k', next := n' } w (((w1.setCell ⟨j, 5, none⟩ (.slice (some ⟨b, 0, none⟩) (J.L.length + 1) cap)).setCell ⟨j, 2, none⟩ (.int .i64 (k' : Int))).setCell ⟨j, 3, none⟩ (.int .i64 (n' : Int))) := by
  have hlt := h.lt
  obtain ⟨_, hd, hB, h2, h3, h4, h5, h6, h7, h8, _⟩ := h
  have hb : q = some b ∨ w.heap.size ≤ b := by rw [← hq]; exact hat
  have old : ∀ k, FootJ g s r j q k → q ≠ some k → k ≠ b := fun k hk hne e => by
    subst e
    rcases hb with e | e
    · exact hne e
    · have := (hlt k hk).2; omega
  have t1 : Turned (FootJ g s r j q) w w1 := (Turned.of_below h0 (p := FootJ g s r j q)).trans (Turned.of_grown hg (p := fun k => q = some k) fun k hk => by rw [← hq]; exact hk) (fun _ e => e) (fun _ _ e => .inr (.inr (.inr (.inr e))))
  have keep : ∀ k o, FootJ g s r j q k → q ≠ some k → w.heap[k]? = some o → w1.heap[k]? = some o := fun k o hk hne ho => by
    have hl := (hlt k hk).2
    rw [hg.block k (Nat.lt_of_lt_of_le hl h0.size) (fun e => hne (by rw [← hq, ← e])), h0.block k hl]
    exact ho
  have hw1 := keep j _ (.inr (.inr (.inl rfl))) h5 hh
  have t2 : Turned (fun k => k = j) w1 (((w1.setCell ⟨j, 5, none⟩ (.slice (some ⟨b, 0, none⟩) (J.L.length + 1) cap)).setCell ⟨j, 2, none⟩ (.int .i64 (k' : Int))).setCell ⟨j, 3, none⟩ (.int .i64 (n' : Int))) :=
    (((Turned.refl (fun k => k = j) w1).setCell (b := ⟨j, 5, none⟩) (fun _ => rfl) _).setCell (b := ⟨j, 2, none⟩) (fun _ => rfl) _).setCell (b := ⟨j, 3, none⟩) (fun _ => rfl) _
  have hbj : b ≠ j := fun e => old j (.inr (.inr (.inl rfl))) h5 e.symm
  refine ⟨r, some b, ⟨hok, ?_, hB, h2, h3, h4, by simpa using hbj, ?_, ?_, fun k hk e => ?_, some ⟨b, 0, none⟩, cap, ?_, ?_, rfl⟩, fun k e => .inl e, fun k e => ?_, t1.trans t2 (fun _ e => e) (fun _ _ e => .inr (.inr (.inl e)))⟩
  · obtain ⟨d1, d2, d3, d4, d5, d6, d7, A', c', d8, d9, d10⟩ := hd
    refine ⟨d1, d2, d3, d4, d5, d6, t2.heap (keep s _ (.inr (.inl rfl)) h7 d7) (fun e => h3 e.symm), A', c', t2.heap (keep g _ (.inl rfl) h6 d8) (fun e => h2 e.symm), ?_, d10⟩
    have : w1.ownsRow B 218 65 (.slice A' J.d.L.length c') J.d.L.length (wcells J.d.L) := by
      refine own65_turned (p := fun k => q = some k) ((Turned.of_below h0 (p := fun k => q = some k)).trans (Turned.of_grown hg (p := fun k => q = some k) fun k hk => by rw [← hq]; exact hk) (fun _ e => e) (fun _ _ e => e)) d9 fun k hk e => ?_
      exact h8 k e (by rw [← d10]; exact hk)
    exact own65_turned t2 this fun k hk e => by
      subst e
      exact h4 (by rw [← d10]; exact hk)
  · intro e
    injection e with e
    exact old g (.inl rfl) h6 e.symm
  · intro e
    injection e with e
    exact old s (.inr (.inl rfl)) h7 e.symm
  · injection hk with hk
    subst hk
    rcases hb with e' | e'
    · exact h8 _ e' e
    · have := (hlt _ (.inr (.inr (.inr (.inl e))))).2; omega
  · rw [row_set (row_set (row_set hw1 _ _) _ _), List.length_append]
    rfl
  · show World.ownsRow _ B _ 65 (.slice (some ⟨b, 0, none⟩) (J.L ++ [p]).length cap) (J.L ++ [p]).length (wcells (J.L ++ [p]))
    rw [wcells_snoc, List.length_append]
    exact own65_turned t2 hown fun k hk e => by
      subst e
      injection hk with hk
      exact hbj hk
  · injection e with e
    subst e
    exact hb

/-- where Add's loop stands: so many sectors were written -/
def AddAt (B g s : Nat) (r : Option Nat) (j : Nat) (q : Option Nat) (J : Jn) (l : List (Nat × List UInt8)) (w4 : World) (k : Nat) (d' : Dv) (wr : World) : Prop :=
  J.d.puts l = d'.puts (l.drop k) ∧ MovedJ B g s r j q { J with d := d' } w4 wr ∧ d'.L.length ≤ J.d.L.length + k ∧ d'.n = J.d.n

set_option maxRecDepth 100000 in
set_option maxHeartbeats 4000000 in
theorem Add_any (B g s : Nat) (r : Option Nat) (j : Nat) (q : Option Nat) (J : Jn) (A : Option Addr) (m c : Nat) (t : List UInt8) (w : World) (h : IsJ w B g s r j q J) (hdl : J.d.L.length ≤ 900000) (hk : J.k < 1000000) (hl : J.L.length < 100000) (hBw : B ≤ w.heap.size)
    (hm : t.length = m) (hs : Seen w A (bytesV t)) :
    Calls Tryz.prog 193 #[.pointer (some ⟨j, 0, none⟩), .slice A m c] w fun e w' => e = .returned (.int .i64 ((J.add t).1 : Int)) ∧ MovedJ B g s r j q (J.add t).2 w w' := by
  have H := Lib.hid h
  have Hm := Lib.hid hm; clear hm
  have Hs := Lib.hid hs; clear hs
  obtain ⟨h1, hd, hB, h2, h3, h4, h5, h6, h7, h8, A', c', hh, hown, hq⟩ := h
  have Hh := Lib.hid hh
  have c6 : w.cell? ⟨j, 6, none⟩ = some (.bool J.dead) := row_cell hh 6
  cases hdead : J.dead with
  | true =>
    have ha : J.add t = (16, J) := by unfold Jn.add; rw [if_pos hdead]
    rw [hdead] at c6
    rw [ha]
    clear hh hown hq h8 hd h1 ha hdead
    go_enter Tryz.func193, Tryz.ntmps193
    go_wp2
    go_ret
    exact ⟨rfl, MovedJ.refl H.out⟩
  | false =>
    rw [hdead] at c6
    have c1 : w.cell? ⟨j, 1, none⟩ = some (.int .i64 (J.gen : Int)) := row_cell hh 1
    have c2 : w.cell? ⟨j, 2, none⟩ = some (.int .i64 (J.k : Int)) := row_cell hh 2
    have bg := h1.gen
    have bn := h1.next
    have bf := h1.fin
    have bd := hd.1.n
    have H1 := Lib.hid h1
    have Hdead := Lib.hid hdead
    clear hh hown hq h8 hd hdead h1
    have hbd := (Below.refl w.heap.size w).drew
    have Hs0 := Lib.hid (Hs.out.below hbd)
    have Hbd := Lib.hid hbd
    clear hbd
    by_cases hE : formE J.gen J.k t = 0
    · have hm16 := (formE_nat hE).2.2
      have hm1 : 1 ≤ manyOf J.gen J.k t := secs_pos _
      obtain ⟨x, hx⟩ : ∃ x, manyOf J.gen J.k t = x := ⟨_, rfl⟩
      rw [hx] at hm16 hm1
      obtain ⟨N, hN⟩ : ∃ N, 64 * x = N := ⟨_, rfl⟩
      have hfo := Form_ok J.gen J.k A m c t w.drew bg (by omega) Hm.out Hs0.out N (by rw [hx, hN]) hE
      have Hfo := Lib.hid hfo; clear hfo
      have hdiv : (N : Int) / 64 = (x : Int) := by omega
      have hN64 : 64 ≤ N := by omega
      have Hx := Lib.hid hx; have HN := Lib.hid hN
      clear hx hN
      have Hf0 := Lib.hid hE; clear hE
      go_enter Tryz.func193, Tryz.ntmps193
      go_wp2
      go_region_held3 (fun w' => w'.cell? ⟨j, 1, none⟩ = some (.int .i64 (J.gen : Int)) ∧ w'.cell? ⟨j, 2, none⟩ = some (.int .i64 (J.k : Int)))
        (first | exact ⟨c1, c2⟩ | exact Hc.out)
        (first | (go_at_call 132; refine Hfo.out.mono ?_; rintro e w1 ⟨b, rfl, hbb, hblk, hb1⟩; have Hc := Lib.hid (two_kept hb1 c1 c2); have Hblk := Lib.hid hblk; have Hb1 := Lib.hid (Hbd.out.trans (hb1.mono Hbd.out.size)); have hbw : w.heap.size ≤ b := Nat.le_trans Hbd.out.size hbb; clear hblk hb1 hbb))
      have Hj1 := Lib.hid (H.out.below Hb1.out)
      by_cases hroom : J.fin - J.next < x
      · have ha : J.add t = (6, J) := by unfold Jn.add; rw [if_neg (by rw [Hdead.out]; simp), if_neg (by rw [Hf0.out]; simp), if_pos (by rw [Hx.out]; exact hroom)]
        have Ha := Lib.hid ha; clear ha
        have hri : ((J.fin - J.next : Nat) : Int) < (x : Int) := by omega
        go_wp2_with (go_at_call 213; refine (Room_any B g s r j q J w1 Hj1.out).mono ?_; rintro e w2 ⟨rfl, hb2⟩; have Hj2 := Lib.hid (Hj1.out.below hb2); have Hb2 := Lib.hid (Hb1.out.trans (hb2.mono Hb1.out.size)); clear hb2)
        go_ret
        rw [Ha.out]
        exact ⟨rfl, r, q, Hj2.out, fun k e => .inl e, fun k e => .inl e, Turned.of_below Hb2.out⟩
      · have hri : ¬ ((J.fin - J.next : Nat) : Int) < (x : Int) := by omega
        go_wp2_with (go_at_call 213; refine (Room_any B g s r j q J w1 Hj1.out).mono ?_; rintro e w2 ⟨rfl, hb2⟩; have Hj2 := Lib.hid (Hj1.out.below hb2); have Hb2 := Lib.hid (Hb1.out.trans (hb2.mono Hb1.out.size)); have Hblk2 := Lib.hid ((hb2.block b (Array.getElem?_eq_some_iff.1 Hblk.out).1).trans Hblk.out); clear hb2)
        have hj2 := Hj2.out
        obtain ⟨_, _, _, _, _, _, _, _, _, _, A2, c2', hh2, _⟩ := hj2
        have d3 : w2.cell? ⟨j, 3, none⟩ = some (.int .i64 (J.next : Int)) := row_cell hh2 3
        clear hh2
        have hArr := run_arr_long (some ⟨b, 0, none⟩) N N hN64
        have hfx := form_length 1 J.gen J.k t
        rw [Hx.out, HN.out] at hfx
        have hs0l : (sec (formX 1 J.gen J.k t) 0).length = 64 := sec_length (n := x) (by rw [hfx]; have := HN.out; omega) hm1
        have hrg : w2.drew.rangeAt b 0 (bytesV (sec (formX 1 J.gen J.k t) 0)) := fun i v hv => by
          show w2.cell? ⟨b, 0 + i, none⟩ = some v
          rw [Nat.zero_add, row_cell Hblk2.out i]
          simp only [bytesV, List.getElem?_map, Option.map_eq_some_iff, List.getElem?_toArray] at hv ⊢
          obtain ⟨u, hu, rfl⟩ := hv
          have := sec_at hu
          exact ⟨u, by simpa using this, rfl⟩
        obtain ⟨S0, hS0⟩ : ∃ S0, sec (formX 1 J.gen J.k t) 0 = S0 := ⟨_, rfl⟩
        rw [hS0] at hs0l hrg
        have HS0 := Lib.hid hS0
        have hbl : (bytesV S0).length = 64 := by rw [bytes_length]; exact hs0l
        have hZ := zst_run
        have hZ1 := zw_size
        have hZ2 := zw_ne
        have hZ3 := zw_fold (J.next : Int) (bytesV S0) hbl
        have hU := arr_und
        have hI : (Tryz.prog.info? 184).map (·.size) = some (bytesV S0).length := by rw [hbl]; exact arr_size
        have HS0l := Lib.hid hs0l
        obtain ⟨cw, hcw⟩ : ∃ cw, (Value.int .i64 (J.next : Int) :: bytesV S0).toArray = cw := ⟨_, rfl⟩
        rw [hcw] at hZ3
        have hcw65 : cw.size = 65 := by rw [← hcw]; simp [hbl]
        have hone : cw.all (·.oneCell') = true := by rw [← hcw]; exact all_oneCell_toArray (wcell_one (J.next, S0))
        have hSt : (stSt (.pointer (some ⟨w2.heap.size, 0, none⟩)) (.agg cw)).run Tryz.prog (w2.alloc (.cells zw 256)).drew = .ok () (w2.drew.alloc (.cells cw 256)) := stSt_run w2.drew zw cw zw_size hcw65 hone
        obtain ⟨w3, hw3⟩ : ∃ w3, w2.drew.alloc (.cells cw 256) = w3 := ⟨_, rfl⟩
        have hf3 : w3.heap[w2.heap.size]? = some (.cells cw 256 (0, 0)) := by rw [← hw3]; exact heap_alloc_new w2.drew _
        have hb3 : Below w2.heap.size w2 w3 := by rw [← hw3]; exact (Below.refl _ _).drew.alloc (Nat.le_refl _) _
        have hs3 : w3.heap.size = w2.heap.size + 1 := by rw [← hw3]; simp
        have hblt := (Array.getElem?_eq_some_iff.1 Hblk2.out).1
        have hblk3 := (hb3.block b hblt).trans Hblk2.out
        have e0 : w3.cell? ⟨b, 0, none⟩ = some (.int .u8 1) := by rw [row_cell hblk3 0]; rfl
        have g0 := row_frozen hblk3 0
        have hN0 : (0 : Int) < (N : Int) := by omega
        have Hj3 := Lib.hid (Hj2.out.below hb3)
        have Hb3 := Lib.hid (Hb2.out.trans (hb3.mono Hb2.out.size))
        have Hblk3 := Lib.hid hblk3; have Hf3 := Lib.hid hf3; have Hs3 := Lib.hid hs3; have Hcw := Lib.hid hcw; have Hw3 := Lib.hid hw3
        rw [hw3] at hSt
        have Z0 := Lib.hid (show w2.drew.cell? ⟨j, 3, none⟩ = some (.int .i64 (J.next : Int)) ∧ w2.drew.rangeAt b 0 (bytesV S0) from ⟨d3, hrg⟩)
        have Z1 := Lib.hid (show (w2.alloc (.cells zw 256)).drew.cell? ⟨j, 3, none⟩ = some (.int .i64 (J.next : Int)) ∧ (w2.alloc (.cells zw 256)).drew.rangeAt b 0 (bytesV S0) from
          ⟨(World.cell?_alloc_lt w2 _ _ (block_lt_of_cell d3)).trans d3, fun i v hv => (World.cell?_alloc_lt w2 _ _ (block_lt_of_cell (hrg i v hv))).trans (hrg i v hv)⟩)
        have Z2 := Lib.hid (show w3.cell? ⟨j, 3, none⟩ = some (.int .i64 (J.next : Int)) ∧ w3.rangeAt b 0 (bytesV S0) from
          ⟨(hb3.cell (block_lt_of_cell d3)).trans d3, fun i v hv => (hb3.cell (block_lt_of_cell (hrg i v hv))).trans (hrg i v hv)⟩)
        clear hS0 hfx hs0l hrg hcw hcw65 hone hf3 hb3 hs3 hblk3 hw3
        have hLd := ldArr_run Z0.out.2 HS0l.out
        have hLd1 := ldArr_run Z1.out.2 HS0l.out
        have d31 := Z1.out.1
        go_cut [8] (fun s8 wx => s8 = .pointer (some ⟨w2.heap.size, 0, none⟩) ∧ w3 = wx)
        case first =>
          go_region_law (fail)
          all_goals
            try go_wp2
            go_meet
            exact ⟨rfl, rfl⟩
        case rest =>
        obtain ⟨rfl, rfl⟩ := hcut
        go_wp2
        obtain ⟨w4, hw4⟩ : ∃ w4, w3.setCell ⟨b, 0, none⟩ (.int .u8 0) = w4 := ⟨_, rfl⟩
        rw [hw4]
        have hfoot : ∀ k, FootJ g s r j q k → k < w.heap.size := fun k hk => (H.out.lt k hk).2
        have ht4 : Turned (fun k => k = b) w3 w4 := by rw [← hw4]; exact (Turned.refl (fun k => k = b) w3).setCell (b := ⟨b, 0, none⟩) (fun _ => rfl) _
        have Hj4 := Lib.hid (Hj3.out.turned ht4 (fun k hk e => by have := hfoot k hk; omega))
        have Hb4 := Lib.hid (Hb3.out.trans (ht4.below (fun k e => by rw [e]; exact hbw) Hb3.out.size))
        have Hblk4 := Lib.hid (show w4.heap[b]? = some (.cells (bytesV (formX 0 J.gen J.k t)).toArray 5 (0, 0)) from by
          rw [← hw4, row_set Hblk3.out]
          obtain ⟨c0, _, _, s0, hx0⟩ := form_cut 1 J.gen J.k t
          rw [hx0 1, hx0 0]
          rfl)
        have Hf4 := Lib.hid (ht4.heap Hf3.out (fun e => by omega))
        have Hs4 := Lib.hid (show w2.heap.size < w4.heap.size from (Array.getElem?_eq_some_iff.1 Hf4.out).1)
        have Hfoot := Lib.hid hfoot
        clear hw4 ht4 hfoot hSt e0 g0 hZ hZ1 hZ2 hZ3 hU hI hArr d3 hbl
        obtain ⟨l, hl'⟩ : ∃ l, J.form0 t = l := ⟨_, rfl⟩
        have Hl := Lib.hid (show ∀ k, k < x → l[k]? = some (J.next + k, sec (formX 0 J.gen J.k t) k) from fun k hk => by rw [← hl']; unfold Jn.form0; rw [Hx.out]; simp [chunks, hk])
        have Hll := Lib.hid (show l.length = x from by rw [← hl']; unfold Jn.form0; rw [Hx.out]; simp [chunks])
        have HF := Lib.hid (form_length 0 J.gen J.k t)
        rw [Hx.out, HN.out] at HF
        have HL' := Lib.hid hl'
        clear hl'
        go_loopw [51] (fun iv wr => ∃ (k : Nat) (d' : Dv), k ≤ x ∧ iv = .int .i64 (k : Int) ∧ AddAt B g s r j q J l w4 k d' wr) (fun iv _ => x - (intOf iv).toNat)
        case atStart => exact ⟨0, J.d, by omega, rfl, by simp, MovedJ.refl Hj4.out, by omega, rfl⟩
        case round =>
          obtain ⟨k, d', hkx, rfl, hp, hmv, hdl', hdn⟩ := hrel
          have Hp := Lib.hid hp
          obtain ⟨r1, q1, hj5, hr5, hq5, ht5⟩ := hmv
          have Hj5 := Lib.hid hj5; have Hr5 := Lib.hid hr5; have Hq5 := Lib.hid hq5; have Ht5 := Lib.hid ht5
          obtain ⟨_, _, _, _, _, _, _, _, _, _, A3, c3', hh3, _⟩ := hj5
          have k0 : wr.cell? ⟨j, 0, none⟩ = some (.pointer (some ⟨g, 0, none⟩)) := row_cell hh3 0
          have k3 : wr.cell? ⟨j, 3, none⟩ = some (.int .i64 (J.next : Int)) := row_cell hh3 3
          have hblk5 := Ht5.out.heap Hblk4.out (fun hk => by have := Hfoot.out b hk; omega)
          have Hblk5 := Lib.hid hblk5
          clear hp hh3 hr5 hq5 ht5 hblk5
          by_cases hkl : k < x
          · obtain ⟨K0, hK0⟩ : ∃ K0, k * 64 = K0 := ⟨_, rfl⟩
            obtain ⟨K1, hK1⟩ : ∃ K1, (k + 1) * 64 = K1 := ⟨_, rfl⟩
            have u1 : (k : Int) * 64 = (K0 : Int) := by omega
            have u2 : ((k : Int) + 1) * 64 = (K1 : Int) := by omega
            have u3 : (K0 : Int) ≤ (K1 : Int) := by omega
            have u4 : (K1 : Int) ≤ (N : Int) := by have := HN.out; omega
            have u5 : K1 - K0 = 64 := by omega
            have u6 : ¬ N = K0 := by have := HN.out; omega
            have HK0 := Lib.hid hK0
            clear hK0 hK1
            have v1 := wrap_in (K0 : Int) (by omega) (by omega)
            have v2 := wrap_in ((k : Int) + 1) (by omega) (by omega)
            have v3 := wrap_in (K1 : Int) (by have := HN.out; omega) (by have := HN.out; omega)
            have v4 : max (K1 : Int) 0 = (K1 : Int) := by omega
            have v5 := wrap_in ((J.next : Int) + (k : Int)) (by omega) (by omega)
            have u7 : (0 : Int) ≤ (K0 : Int) := by omega
            have u8 : (0 : Int) ≤ (K1 : Int) := by omega
            go_wp2
            go_still_tail 17, (by kernel_rfl)
            change wpList _ _ _ _ _ wr.drew
            clear v1 v2 v3 v4 v5 u7 u8
            obtain ⟨v, hv⟩ : ∃ v, J.next + k = v := ⟨_, rfl⟩
            have hvi : (J.next : Int) + (k : Int) = (v : Int) := by omega
            have hlk := Hl.out k hkl
            rw [hv] at hlk
            have hvn : v < d'.n := by rw [hdn]; omega
            obtain ⟨c, hc⟩ : ∃ c, sec (formX 0 J.gen J.k t) k = c := ⟨_, rfl⟩
            have hcl : c.length = 64 := by rw [← hc]; exact sec_length (n := x) (by rw [HF.out]; have := HN.out; omega) hkl
            rw [hc] at hlk
            have hdrop : l.drop k = (v, c) :: l.drop (k + 1) := by
              rw [List.drop_eq_getElem_cons (by rw [Hll.out]; exact hkl)]
              congr 1
              have := List.getElem?_eq_getElem (l := l) (i := k) (by rw [Hll.out]; exact hkl)
              rw [hlk] at this
              injection this with this
              exact this.symm
            have hsee : Seen wr.drew (some ⟨b, K0, none⟩) (bytesV c) := .inr ⟨b, K0, rfl, fun i u hu => by
              show wr.cell? ⟨b, K0 + i, none⟩ = some u
              rw [row_cell Hblk5.out]
              rw [← hc] at hu
              simp only [bytesV, List.getElem?_map, Option.map_eq_some_iff, List.getElem?_toArray] at hu ⊢
              obtain ⟨y, hy, rfl⟩ := hu
              exact ⟨y, by rw [← HK0.out, Nat.mul_comm k 64]; exact sec_at hy, rfl⟩⟩
            have hjd : IsJ wr.drew B g s r1 j q1 { J with d := d' } := Hj5.out.below (Below.refl _ _).drew
            have hbr1 : r1 ≠ some b := fun e => by
              rcases Hr5.out b e with e | e
              · have := Hfoot.out b (.inr (.inr (.inr (.inl e)))); omega
              · have := Hs4.out; omega
            have hwr := Write_any B g s r1 d' (v : Int) (some ⟨b, K0, none⟩) 64 (N - K0) c wr.drew hjd.dev (by omega) (by omega) (by omega) hcl (by omega) (by have := hjd.lt j (.inr (.inr (.inl rfl))); omega) hsee (fun gb ob e => by
              injection e with e; injection e with e1 _
              subst e1
              refine ⟨fun e => ?_, fun e => ?_, hbr1⟩
              · have := Hfoot.out g (.inl rfl); omega
              · have := Hfoot.out s (.inr (.inl rfl)); omega)
            rw [← hvi] at hwr
            have Hwr := Lib.hid hwr
            have Hmm := Lib.hid (show ∀ w6 d2, MovedD B g s r1 d2 wr.drew w6 → d2.n = d'.n → MovedJ B g s r j q { J with d := d2 } w4 w6 from fun w6 d2 hmv hn => by
              refine MovedJ.step (J := { J with d := d2 }) (r1 := r1) (q1 := q1) Hr5.out Hq5.out Ht5.out ?_
              have h6 := hjd.moved hmv hn
              exact MovedJ.step (fun k e => .inl e) (fun k e => .inl e) (Turned.of_below (Below.refl _ _).drew) h6)
            have Hdrop := Lib.hid hdrop
            have hw16 := writeE_ways d' hvn hcl
            have Hwn := Lib.hid (write_n d' (v : Int) c)
            have HwL := Lib.hid (write_L d' (v : Int) c)
            rw [hvi] at Hwr
            clear hv hlk hvn hc hsee hjd hbr1 hwr hdrop k0 k3
            rcases hw16 with hw0 | hw0
            · have Hw0 := Lib.hid hw0
              have Hwr2 := Lib.hid (show Calls Tryz.prog 130 #[.pointer (some ⟨g, 0, none⟩), .int .i64 ((J.next : Int) + (k : Int)), .slice (some ⟨b, K0, none⟩) 64 (N - K0)] wr.drew (fun e w' => e = .returned (.int .i64 0) ∧ MovedD B g s r1 (d'.write v c) wr.drew w') from by
                rw [hvi]
                refine Hwr.out.mono ?_
                rintro e w6 ⟨rfl, h⟩
                exact ⟨by rw [Hw0.out]; rfl, h⟩)
              clear hw0 hvi
              go_wp2_with (go_at_call 130; refine Hwr2.out.mono ?_; rintro e w6 ⟨rfl, hmv⟩; have Hm6 := Lib.hid (Hmm.out w6 _ hmv Hwn.out); clear hmv)
              go_roundw
              case rel => exact ⟨k + 1, d'.write v c, by omega, by go_num, by rw [Hp.out, Hdrop.out, Dv.puts, if_pos Hw0.out], Hm6.out, by have := HwL.out; omega, by rw [Hwn.out]; exact hdn⟩
              case measure => simp [intOf]; omega
            · have Hw0 := Lib.hid hw0
              have ha : J.add t = (16, J.died (d'.write v c)) := by
                unfold Jn.add
                rw [if_neg (by rw [Hdead.out]; simp), if_neg (by rw [Hf0.out]; simp), if_neg (by rw [Hx.out]; exact hroom), HL'.out, Hp.out, Hdrop.out, Dv.puts, if_neg (by rw [Hw0.out]; simp), Hw0.out, if_neg (by simp)]
              have Ha := Lib.hid ha; clear ha
              have Hwr2 := Lib.hid (show Calls Tryz.prog 130 #[.pointer (some ⟨g, 0, none⟩), .int .i64 ((J.next : Int) + (k : Int)), .slice (some ⟨b, K0, none⟩) 64 (N - K0)] wr.drew (fun e w' => e = .returned (.int .i64 16) ∧ MovedD B g s r1 (d'.write v c) wr.drew w') from by
                rw [hvi]
                refine Hwr.out.mono ?_
                rintro e w6 ⟨rfl, h⟩
                exact ⟨by rw [Hw0.out]; rfl, h⟩)
              clear hw0 hvi
              go_wp2_with (first
                | (go_at_call 130; refine Hwr2.out.mono ?_; rintro e w6 ⟨rfl, hmv⟩; have hm6 := Hmm.out w6 _ hmv Hwn.out; obtain ⟨r6, q6, hj6, hr6, hq6, ht6⟩ := hm6; have Hj6 := Lib.hid hj6; have Hr6 := Lib.hid hr6; have Hq6 := Lib.hid hq6; have Ht6 := Lib.hid ht6; clear hmv hj6 hr6 hq6 ht6)
                | (go_at_call 214; refine (die_any B g s r6 j q6 { J with d := d'.write v c } 16 w6 Hj6.out (by omega)).mono ?_; rintro e w7 ⟨rfl, hmv⟩; have Hm7 := Lib.hid hmv; clear hmv))
              go_ret
              rw [Ha.out]
              refine ⟨rfl, ?_⟩
              have h7 := MovedJ.step Hr6.out Hq6.out Ht6.out Hm7.out
              exact MovedJ.step (fun k e => .inl e) (fun k e => .inl e) (Turned.of_below Hb4.out) h7
          · obtain rfl : k = x := by omega
            have hpe : J.d.puts l = (0, d') := by rw [Hp.out, List.drop_eq_nil_of_le (by rw [Hll.out]; exact Nat.le_refl _)]; rfl
            have ha : J.add t = (0, J.more t d') := by
              unfold Jn.add
              rw [if_neg (by rw [Hdead.out]; simp), if_neg (by rw [Hf0.out]; simp), if_neg (by rw [Hx.out]; exact hroom), HL'.out, hpe, if_pos rfl]
            have Ha := Lib.hid ha; clear ha hpe
            have hj5 := Hj5.out
            obtain ⟨_, _, _, _, _, _, _, _, _, _, A5, c5', hh5, hown5, hq5'⟩ := hj5
            have hok5 : (J.more t d').Ok := by
              have o := Hj5.out.ok
              refine ⟨o.d, o.gen, by show J.k + 1 ≤ _; omega, ?_, o.fin, fun p hp => ?_, by show (J.L ++ [_]).length ≤ _; rw [List.length_append]; simp; omega⟩
              · show J.next + manyOf J.gen J.k t ≤ J.fin
                rw [Hx.out]; omega
              · simp only [Jn.more, List.mem_append, List.mem_singleton] at hp
                rcases hp with hp | rfl
                · exact o.L p hp
                · exact ⟨by show J.next < d'.n; rw [hdn]; omega, by rw [HS0.out]; exact HS0l.out⟩
            have Hok5 := Lib.hid hok5; clear hok5
            have m5 : wr.cell? ⟨j, 5, none⟩ = some (.slice A5 J.L.length c5') := row_cell hh5 5
            have m2 : wr.cell? ⟨j, 2, none⟩ = some (.int .i64 (J.k : Int)) := row_cell hh5 2
            have Hh5 := Lib.hid hh5; have Hown5 := Lib.hid hown5; have Hq5' := Lib.hid hq5'
            have hf5 := Ht5.out.heap Hf4.out (fun hk => by have := Hfoot.out _ hk; have := Hb2.out.size; omega)
            have hcl : cw.toList.length = 65 := by rw [← Hcw.out]; simp [bytes_length, HS0l.out]
            have hcs : cw.size = 65 := by simpa using hcl
            have hra : wr.rangeAt w2.heap.size 0 cw.toList := fun i v hv => by
              rw [Nat.zero_add, row_cell hf5 i]
              simpa using hv
            have hLd := ldSt_run (w := wr.drew) (by simpa using hra) hcl
            have hLd1 := ldSt_run (w := (wr.alloc (.cells cw 256)).drew) (b := w2.heap.size) (o := 0) (cs := cw.toList) (fun i v hv => (World.cell?_alloc_lt wr _ _ (block_lt_of_cell (hra i v hv))).trans (hra i v hv)) hcl
            rw [show cw.toList.toArray = cw by simp] at hLd hLd1
            have hone : ∀ u ∈ cw.toList, u.oneCell' = true := by rw [← Hcw.out]; exact cell_one _ _
            have Hone := Lib.hid hone; clear hone
            obtain ⟨i0, hi0, hz0, hz1, hz2⟩ := info_parts st_info
            have Hi0 := Lib.hid (And.intro hi0 (And.intro hz0 (And.intro hz1 hz2)))
            clear hi0 hz0 hz1 hz2
            have HownA := Lib.hid ((Hown5.out.alloc (.cells cw 256)).drew)
            have Hnews := Lib.hid (World.news_of_block (w := (wr.alloc (.cells cw 256)).drew) (B := wr.heap.size) (cs := cw) (heap_alloc_new wr _))
            have Hlen := Lib.hid (show cw.toList.length = 1 * 65 by rw [hcl])
            have Hb1' := Lib.hid (show J.L.length + 1 ≤ maxLen by unfold maxLen; omega)
            have Hb2' := Lib.hid (show (J.L.length + 1) * 72 ≤ 140737488355328 by omega)
            have HszA := Lib.hid (show B ≤ (wr.alloc (.cells cw 256)).drew.heap.size by have := Hj5.out.lt j (.inr (.inr (.inl rfl))); simp; omega)
            have HH := Lib.hid (show (wr.alloc (.cells cw 256)).drew.heap.size = wr.heap.size + 1 by simp)
            have hZ4 := oneStart_run cw hcs
            have hZ := zst_run
            have m5a : (wr.alloc (.cells cw 256)).drew.cell? ⟨j, 5, none⟩ = some (.slice A5 J.L.length c5') := (World.cell?_alloc_lt wr _ _ (block_lt_of_cell m5)).trans m5
            have Hrow7 := Lib.hid (show ∀ w7, (wr.alloc (.cells cw 256)).drew.grownBy w7 (Value.slice A5 J.L.length c5').ownBlock → w7.heap[j]? = wr.heap[j]? from fun w7 hg => by
              have hl := (Array.getElem?_eq_some_iff.1 Hh5.out).1
              rw [hg.block j (by simp; omega) (fun e => Hj5.out.2.2.2.2.2.2.1 (by rw [← Hq5'.out, ← e]))]
              exact Below.heap_alloc _ _ _ hl)
            clear hcl hcs hra hf5 hh5 hown5 hq5'
            go_wp2
            go_region_law((refine step_append_lies _ (by rfl) (.tmp 82) (.tmp 84) _ (by rfl) B 256 i0 z65 65 72 Tryz.underlying241 Hi0.out.1 Hi0.out.2.1 Hi0.out.2.2.1 Hi0.out.2.2.2 z65_size (by omega) (.slice A5 J.L.length c5') J.L.length (wcells J.L) (by rfl) HownA.out ⟨wr.heap.size, 0, none⟩ 1 1 cw.toList (by rfl) Hlen.out Hnews.out Hone.out (by omega) Hb1'.out Hb2'.out HszA.out (wr.heap.size + 1) HH.out ?_; intro k2 cap2 w7 hown7 hgrow7 hat7 hlt7; have hcc := (Hrow7.out w7 hgrow7).trans Hh5.out; have hcc5 : w7.cell? ⟨j, 5, none⟩ = some (.slice A5 J.L.length c5') := row_cell hcc 5; have hff5 := row_frozen hcc 5; have Hcc := Lib.hid hcc; have Hown7 := Lib.hid hown7; have Hgrow7 := Lib.hid hgrow7; have Hat7 := Lib.hid hat7; clear hcc hown7 hgrow7 hat7))
            all_goals
              have n2 : ∀ u, (w7.setCell ⟨j, 5, none⟩ u).cell? ⟨j, 2, none⟩ = some (.int .i64 (J.k : Int)) := fun u => by rw [World.cell?_setCell_other _ _ _ _ (by simp)]; exact row_cell Hcc.out 2
              have n2f : ∀ u, (w7.setCell ⟨j, 5, none⟩ u).frozen? ⟨j, 2, none⟩ = false := fun u => by rw [World.frozen?_setCell]; exact row_frozen Hcc.out 2
              have n3 : ∀ u v, ((w7.setCell ⟨j, 5, none⟩ u).setCell ⟨j, 2, none⟩ v).cell? ⟨j, 3, none⟩ = some (.int .i64 (J.next : Int)) := fun u v => by rw [World.cell?_setCell_other _ _ _ _ (by simp), World.cell?_setCell_other _ _ _ _ (by simp)]; exact row_cell Hcc.out 3
              have n3f : ∀ u v, ((w7.setCell ⟨j, 5, none⟩ u).setCell ⟨j, 2, none⟩ v).frozen? ⟨j, 3, none⟩ = false := fun u v => by rw [World.frozen?_setCell, World.frozen?_setCell]; exact row_frozen Hcc.out 3
              clear hLd hLd1 hZ4 hZ m5a m5 m2
              go_wp2
              go_ret
              rw [Ha.out]
              refine ⟨rfl, ?_⟩
              have ho := Hown7.out
              rw [← Hcw.out] at ho
              have happ := MovedJ.app (p := (J.next, S0)) (k' := J.k + 1) (n' := J.next + k) Hj5.out Hh5.out Hq5'.out (((Below.refl _ _).alloc (Nat.le_refl _) (.cells cw 256)).drew) Hgrow7.out (by
                rcases Hat7.out with e | e
                · exact .inl e
                · exact .inr (by rw [e]; simp)) ho (by
                  have := Hok5.out
                  unfold Jn.more at this
                  rw [HS0.out, Hx.out] at this
                  exact this)
              have h9 := MovedJ.step Hr5.out Hq5.out Ht5.out happ
              have h10 := MovedJ.step (fun k e => .inl e) (fun k e => .inl e) (Turned.of_below Hb4.out) h9
              unfold Jn.more
              rw [HS0.out, Hx.out]
              exact h10
    · have ha : J.add t = (formE J.gen J.k t, J) := by unfold Jn.add; rw [if_neg (by rw [Hdead.out]; simp), if_pos hE]
      have Ha := Lib.hid ha; clear ha
      obtain ⟨x, hx⟩ : ∃ x : Int, (formE (J.gen : Int) (J.k : Int) t : Int) = x := ⟨_, rfl⟩
      have hfo := Form_err J.gen J.k A m c t w.drew bg (by omega) Hm.out Hs0.out x hx hE
      have Hfo := Lib.hid hfo; clear hfo
      have hd : (x != 0) = true := by rw [← hx]; simp; exact hE
      have Hx := Lib.hid hx; clear hx hE
      go_enter Tryz.func193, Tryz.ntmps193
      go_wp2
      go_region_held3 (fun w' => w'.cell? ⟨j, 1, none⟩ = some (.int .i64 (J.gen : Int)) ∧ w'.cell? ⟨j, 2, none⟩ = some (.int .i64 (J.k : Int)))
        (first | exact ⟨c1, c2⟩ | exact Hc.out)
        (first | (go_at_call 132; refine Hfo.out.mono ?_; rintro e w1 ⟨rfl, hb1⟩; have Hc := Lib.hid (two_kept hb1 c1 c2); have Hb1 := Lib.hid (Hbd.out.trans (hb1.mono Hbd.out.size)); clear hb1))
      all_goals
        go_wp2
        go_ret
        rw [Ha.out]
        exact ⟨by rw [Hx.out]; rfl, r, q, H.out.below Hb1.out, fun k e => .inl e, fun k e => .inl e, Turned.of_below Hb1.out⟩
end Go.Proofs.YtdlgihgdpdiglaaGreat
