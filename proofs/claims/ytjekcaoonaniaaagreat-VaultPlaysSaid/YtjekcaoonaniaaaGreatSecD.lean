/-
  A device in memory (IsD), and contracts of New, burn, has, Fuse, Len, Down. Conditions: what each names.
-/
import Derived.Test.YtjekcaoonaniaaaGreatKept
import Derived.Test.YtjekcaoonaniaaaGreatRows
import Derived.Test.YtjekcaoonaniaaaGreatSecMath
import Derived.Deep.MidRow
import Derived.Deep.WholeRow
import Derived.OwnWalk
import Derived.WalkLawsBesides
import Derived.WalkSpells
namespace Go.Proofs.YtjekcaoonaniaaaGreat
open Go.ChangeShapes Go.WideShapes Go.ChangeAt Go.RowKit
set_option linter.unusedVariables false

/-- the array's zero value: behind a name, so that no walk opens it -/
def za : Array Value := Array.replicate 64 (.int .u8 0)
def z64 : Value := .agg za
theorem arr_info : (Tryz.prog.info? 94).map (fun i => (i.zero, i.size, i.bytes)) = some (some z64, 64, 64) := by kernel_rfl
theorem arr_size : (Tryz.prog.info? 94).map (·.size) = some 64 := by kernel_rfl
theorem wr_size : (Tryz.prog.info? 96).map (·.size) = some 65 := by kernel_rfl
def zw : Array Value := (#[.int .i64 0] : Array Value) ++ Array.replicate 64 (.int .u8 0)
def z65 : Value := .agg zw
theorem wr_info : (Tryz.prog.info? 96).map (fun i => (i.zero, i.size, i.bytes)) = some (some z65, 65, 72) := by kernel_rfl
theorem zw_run (w : World) : (zeroValue 96).run Tryz.prog w = .ok (.agg zw) w := (zero_of_info (n := 65) (v := z65) (by kernel_rfl)).1 w
theorem zw_size : zw.size = 65 := by simp [zw]
theorem arr_und : Tryz.prog.underlying 94 = some (.array 64 5) := by kernel_rfl
/-- the load of a whole array: behind a name -/
def ldArr (p : Value) : Sem Value := Instr.loadAt 94 p
theorem ldArr_eq (p : Value) : Instr.loadAt 94 p = ldArr p := rfl
theorem ldArr_run {w : World} {b o : Nat} {bs : List UInt8} (h : w.rangeAt b o (bytesV bs)) (h64 : bs.length = 64) : (ldArr (.pointer (some ⟨b, o, none⟩))).run Tryz.prog w = .ok (.agg (bytesV bs).toArray) w :=
  run_loadAt_mid w b o _ _ _ h arr_und rfl (by rw [arr_size, bytes_length, h64])
/-- a whole array stored: behind a name -/
def stArr (p v : Value) : Sem Unit := Instr.storeAt 94 p v
theorem stArr_eq (p v : Value) : Instr.storeAt 94 p v = stArr p v := rfl
theorem stArr_run {w : World} {b : Nat} {cs cs' : Array Value} (h : w.heap[b]? = some (.cells cs 94 (0, 0))) (h64 : cs.size = 64) (h64' : cs'.size = 64) (h1 : cs'.all (·.oneCell') = true) :
    (stArr (.pointer (some ⟨b, 0, none⟩)) (.agg cs')).run Tryz.prog w = .ok () (w.setRow b cs') := by
  unfold stArr
  simp only [Instr.storeAt, Instr.sureAddr, Sem.run_bind, Sem.run_pure, Result.andThen_ok]
  exact run_storeVar_row (P := Tryz.prog) w b _ _ cs cs' h (by rw [arr_size, h64']) (by omega) h1
theorem za_run (w : World) : (zeroValue 94).run Tryz.prog w = .ok (.agg za) w := (zero_of_info (n := 64) (v := z64) (by kernel_rfl)).1 w
theorem za_size : za.size = 64 := by simp [za]

/-- a device at g, its sure bytes in the block s, its writes in a row r of its own -/
def IsD (w : World) (B g s : Nat) (r : Option Nat) (d : Dv) : Prop :=
  d.Ok ∧ B ≤ g ∧ B ≤ s ∧ g ≠ s ∧ r ≠ some g ∧ r ≠ some s ∧ w.heap[s]? = some (.cells (bytesV d.S).toArray 94 (0, 0)) ∧
  ∃ A c, w.heap[g]? = some (.cells #[.slice (some ⟨s, 0, none⟩) d.n d.n, .slice A d.L.length c, .int .i64 d.fuse, .bool d.down] 54 (0, 0)) ∧
    w.ownsRow B 96 65 (.slice A d.L.length c) d.L.length (wcells d.L) ∧ (Value.slice A d.L.length c).ownBlock = r
/-- only the device, its sure bytes and its row may have turned; its row is the old one, or new -/
def MovedD (B g s : Nat) (r : Option Nat) (d : Dv) (w w' : World) : Prop :=
  ∃ r', IsD w' B g s r' d ∧ (∀ k, r' = some k → r = some k ∨ w.heap.size ≤ k) ∧ Turned (fun k => k = g ∨ k = s ∨ r = some k) w w'

theorem own65_turned {p : Nat → Prop} {w w' : World} {base : Nat} {e : TypeId} {v : Value} {n z : Nat} {xs : List Value} (h : Turned p w w') (ho : w.ownsRow base e z v n xs) (hn : ∀ k, v.ownBlock = some k → ¬ p k) : w'.ownsRow base e z v n xs := by
  refine ⟨ho.1, ?_⟩
  rcases ho.2 with h2 | ⟨g, cap, cur, rfl, hg, hh, r⟩
  · exact .inl h2
  · exact .inr ⟨g, cap, cur, rfl, hg, h.heap hh (hn g rfl), r⟩
theorem IsD.ok {w : World} {B g s : Nat} {r : Option Nat} {d : Dv} (h : IsD w B g s r d) : d.Ok := h.1
theorem IsD.lt {w : World} {B g s : Nat} {r : Option Nat} {d : Dv} (h : IsD w B g s r d) : g < w.heap.size ∧ s < w.heap.size ∧ B ≤ g ∧ B ≤ s ∧ ∀ k, r = some k → B ≤ k ∧ k < w.heap.size := by
  obtain ⟨h1, h2, h3, h4, h5, h6, h7, A, c, h8, h9, h10⟩ := h
  subst h10
  exact ⟨(Array.getElem?_eq_some_iff.1 h8).1, (Array.getElem?_eq_some_iff.1 h7).1, h2, h3, fun k hk => h9.lt k hk⟩
theorem IsD.turned {p : Nat → Prop} {w w' : World} {B g s : Nat} {r : Option Nat} {d : Dv} (h : IsD w B g s r d) (ht : Turned p w w') (hg : ¬ p g) (hs : ¬ p s) (hr : ∀ k, r = some k → ¬ p k) : IsD w' B g s r d := by
  obtain ⟨h1, h2, h3, h4, h5, h6, h7, A, c, h8, h9, h10⟩ := h
  subst h10
  exact ⟨h1, h2, h3, h4, h5, h6, ht.heap h7 hs, A, c, ht.heap h8 hg, own65_turned ht h9 hr, rfl⟩
theorem IsD.below {w w' : World} {B g s : Nat} {r : Option Nat} {d : Dv} (h : IsD w B g s r d) (hb : Below w.heap.size w w') : IsD w' B g s r d :=
  h.turned (Turned.of_below hb (p := fun _ => False)) id id (fun _ _ => id)
theorem MovedD.refl {w : World} {B g s : Nat} {r : Option Nat} {d : Dv} (h : IsD w B g s r d) : MovedD B g s r d w w := ⟨r, h, fun k hk => .inl hk, .refl _ _⟩
theorem MovedD.step {w w1 w2 : World} {B g s : Nat} {r r1 : Option Nat} {d : Dv} (h2 : ∀ k, r1 = some k → r = some k ∨ w.heap.size ≤ k) (h3 : Turned (fun k => k = g ∨ k = s ∨ r = some k) w w1) (k : MovedD B g s r1 d w1 w2) : MovedD B g s r d w w2 := by
  obtain ⟨r2, k1, k2, k3⟩ := k
  refine ⟨r2, k1, fun i hi => ?_, h3.trans k3 (fun _ e => e) fun i hi e => ?_⟩
  · rcases k2 i hi with e | e
    · exact h2 i e
    · exact .inr (Nat.le_trans h3.size e)
  · rcases e with e | e | e
    · exact .inl e
    · exact .inr (.inl e)
    · rcases h2 i e with e | e
      · exact .inr (.inr e)
      · omega
theorem MovedD.trans {w w1 w2 : World} {B g s : Nat} {r : Option Nat} {d d2 : Dv} (h : MovedD B g s r d w w1) (k : ∀ r1, IsD w1 B g s r1 d → MovedD B g s r1 d2 w1 w2) : MovedD B g s r d2 w w2 := by
  obtain ⟨r1, h1, h2, h3⟩ := h
  exact MovedD.step h2 h3 (k r1 h1)
theorem MovedD.below {w w' : World} {B g s : Nat} {r : Option Nat} {d d2 : Dv} (h0 : IsD w B g s r d) (h : MovedD B g s r d2 w w') (hB : B ≤ w.heap.size) : Below B w w' := by
  obtain ⟨r1, h1, h2, h3⟩ := h
  have hl := h0.lt
  refine h3.below (fun k hk => ?_) hB
  rcases hk with rfl | rfl | hk
  · exact hl.2.2.1
  · exact hl.2.2.2.1
  · exact (hl.2.2.2.2 k hk).1
/-- the device's four cells written anew -/
theorem IsD.of_set {w : World} {B g s : Nat} {r : Option Nat} {d : Dv} (h : IsD w B g s r d) {d2 : Dv} (hok : d2.Ok) (hn : d2.n = d.n) (hS : d2.S = d.S) (hL : d2.L = d.L) {w' : World} (ht : Turned (fun k => k = g) w w')
    (hc : ∀ A c, w.heap[g]? = some (.cells #[.slice (some ⟨s, 0, none⟩) d.n d.n, .slice A d.L.length c, .int .i64 d.fuse, .bool d.down] 54 (0, 0)) →
      w'.heap[g]? = some (.cells #[.slice (some ⟨s, 0, none⟩) d.n d.n, .slice A d.L.length c, .int .i64 d2.fuse, .bool d2.down] 54 (0, 0))) : MovedD B g s r d2 w w' := by
  obtain ⟨h1, h2, h3, h4, h5, h6, h7, A, c, h8, h9, h10⟩ := h
  subst h10
  refine ⟨_, ⟨hok, h2, h3, h4, h5, h6, ?_, A, c, ?_, ?_, ?_⟩, fun k hk => .inl hk, ht.mono fun k _ e => .inl e⟩
  · rw [hS]; exact ht.heap h7 (fun e => h4 e.symm)
  · rw [hn, hL]; exact hc A c h8
  · rw [hL]; exact own65_turned ht h9 (fun k hk e => by subst e; exact h5 hk)
  · rw [hL]

theorem made_bytes (n : Nat) : (madeCells z64.cells (n * 64)).toList = bytesV (List.replicate (n * 64) 0) := by
  have h : ∀ j : Nat, j < 64 → z64.cells[j]! = Value.int .u8 0 := fun j hj => by
    show (Array.replicate 64 (Value.int .u8 0))[j]! = _
    rw [getElem!_pos _ _ (by simp; omega), Array.getElem_replicate]
  apply List.ext_getElem?
  intro j
  have hz : z64.cells.size = 64 := by kernel_rfl
  simp only [madeCells, Array.getElem?_toList, Array.getElem?_map, bytesV, List.getElem?_map, List.getElem?_replicate, Array.getElem?_range]
  split
  · simp only [Option.map_some, hz]
    rw [h (j % 64) (by omega)]
    rfl
  · rfl

theorem New_out (n : Int) (w : World) (h : n < 1 ∨ 4096 < n) (h1 : -9223372036854775808 ≤ n) (h2 : n ≤ 9223372036854775807) :
    Calls Tryz.prog 6 #[.int .i64 n] w fun e w' => e = .returned (.pointer none) ∧ w = w' := by
  by_cases h0 : n < 1
  · go_enter Tryz.func6, Tryz.ntmps6
    go_wp2
    go_ret
    exact ⟨rfl, rfl⟩
  · have h3 : 4096 < n := by omega
    go_enter Tryz.func6, Tryz.ntmps6
    go_wp2
    go_ret
    exact ⟨rfl, rfl⟩

theorem New_any (n : Nat) (w : World) (h1 : 1 ≤ n) (h2 : n ≤ 4096) :
    Calls Tryz.prog 6 #[.int .i64 n] w fun e w' => ∃ g s, e = .returned (.pointer (some ⟨g, 0, none⟩)) ∧ IsD w' w.heap.size g s none (.new n) ∧ Below w.heap.size w w' := by
  have n1 : ¬ (n : Int) < 1 := by omega
  have n2 : ¬ 4096 < (n : Int) := by omega
  obtain ⟨i0, hi, hz0, hz1, hz2⟩ := info_parts arr_info
  go_enter Tryz.func6, Tryz.ntmps6
  go_wp2_with (at_make; go_loud (refine wpList_make_full _ rfl (.tmp 9) (.tmp 9) _ rfl w.heap.size 94 i0 z64 64 Tryz.underlying51 hi hz0 hz1 .i64 .i64 n n n rfl rfl rfl rfl (by rw [hz2]; omega) (by unfold maxLen; omega) (Nat.le_refl _) ?_; intro w1 hown hg; have Hown := Lib.hid hown; have Hg := Lib.hid hg; clear hown hg))
  go_ret
  have hb1 : Below w.heap.size w w1 := (Below.refl _ _).grown Hg.out (Nat.le_refl _) (fun k e => by cases e)
  refine ⟨w1.heap.size, rfl, ⟨w.heap.size, ?_⟩, hb1.alloc hb1.size _⟩
  have ho := Hown.out
  rw [made_bytes] at ho
  rcases ho.2 with ⟨e, _⟩ | ⟨g', cap, cur, e, _, hh, _, _, hs, ht⟩
  · cases e
  · injection e with e1 _ e2
    injection e1 with e1
    injection e1 with e1
    subst e1; subst e2
    rw [List.take_of_length_le (by simp [hs])] at ht
    have hcur : cur = (bytesV (List.replicate (n * 64) 0)).toArray := by rw [← ht]
    subst hcur
    have hlt := (Array.getElem?_eq_some_iff.1 hh).1
    refine ⟨Dv.Ok.new h2, hb1.size, Nat.le_refl _, by omega, by simp, by simp, ?_, none, 0, heap_alloc_new _ _, World.ownsRow_nil _ _ _ _, rfl⟩
    rw [Below.heap_alloc _ _ _ hlt]
    exact hh

theorem IsD.setFuse {w : World} {B g s : Nat} {r : Option Nat} {d : Dv} (h : IsD w B g s r d) (u : Int) (h1 : -9223372036854775808 ≤ u) (h2 : u ≤ 9223372036854775807) : MovedD B g s r { d with fuse := u } w (w.setCell ⟨g, 2, none⟩ (.int .i64 u)) :=
  h.of_set (d2 := { d with fuse := u }) ⟨h.ok.n, h.ok.S, h.ok.L, h1, h2⟩ rfl rfl rfl ((Turned.refl (fun k => k = g) w).setCell (b := ⟨g, 2, none⟩) (fun _ => rfl) _) fun A c hh => by rw [row_set hh]; rfl
theorem IsD.setDown {w : World} {B g s : Nat} {r : Option Nat} {d : Dv} (h : IsD w B g s r d) (u : Bool) : MovedD B g s r { d with down := u } w (w.setCell ⟨g, 3, none⟩ (.bool u)) :=
  h.of_set (d2 := { d with down := u }) ⟨h.ok.n, h.ok.S, h.ok.L, h.ok.lo, h.ok.hi⟩ rfl rfl rfl ((Turned.refl (fun k => k = g) w).setCell (b := ⟨g, 3, none⟩) (fun _ => rfl) _) fun A c hh => by rw [row_set hh]; rfl

/-- the fuse goes down; is the power on? -/
theorem burn_any (B g s : Nat) (r : Option Nat) (d : Dv) (w : World) (h : IsD w B g s r d) :
    Calls Tryz.prog 80 #[.pointer (some ⟨g, 0, none⟩)] w fun e w' => e = .returned (.bool (!d.burnt.down)) ∧ MovedD B g s r d.burnt w w' := by
  have H := Lib.hid h
  obtain ⟨hok, hBg, hBs, hgs, hrg, hrs, hS, A, c, hh, hown, hr⟩ := h
  have c2 : w.cell? ⟨g, 2, none⟩ = some (.int .i64 d.fuse) := row_cell hh 2
  have c3 : w.cell? ⟨g, 3, none⟩ = some (.bool d.down) := row_cell hh 3
  have f2 := row_frozen hh 2
  have f3 := row_frozen hh 3
  have lo := hok.lo
  have hi := hok.hi
  clear hS hown hr hh
  by_cases h0 : 0 < d.fuse
  · have hbd : d.burnt = { d with fuse := d.fuse - 1 } := if_pos h0
    have Hbd := Lib.hid hbd; clear hbd
    go_enter Tryz.func80, Tryz.ntmps80
    go_wp2
    go_ret
    rw [Hbd.out]
    exact ⟨rfl, H.out.setFuse _ (by omega) (by omega)⟩
  · by_cases h1 : d.fuse = 0
    · have hbd : d.burnt = { d with down := true } := by unfold Dv.burnt; rw [if_neg h0, if_pos h1]
      have Hbd := Lib.hid hbd; clear hbd
      rw [h1] at c2
      clear h1 h0
      go_enter Tryz.func80, Tryz.ntmps80
      go_wp2
      go_ret
      rw [Hbd.out]
      exact ⟨rfl, H.out.setDown true⟩
    · have hbd : d.burnt = d := by unfold Dv.burnt; rw [if_neg h0, if_neg h1]
      have Hbd := Lib.hid hbd; clear hbd
      go_enter Tryz.func80, Tryz.ntmps80
      go_wp2
      go_ret
      rw [Hbd.out]
      exact ⟨rfl, .refl H.out⟩

theorem has_any (B g s : Nat) (r : Option Nat) (d : Dv) (i : Int) (w : World) (h : IsD w B g s r d) :
    Calls Tryz.prog 49 #[.pointer (some ⟨g, 0, none⟩), .int .i64 i] w fun e w' => e = .returned (.bool (d.has i)) ∧ w = w' := by
  obtain ⟨hok, hBg, hBs, hgs, hrg, hrs, hS, A, c, hh, hown, hr⟩ := h
  have c0 : w.cell? ⟨g, 0, none⟩ = some (.slice (some ⟨s, 0, none⟩) d.n d.n) := row_cell hh 0
  clear hS hown hr hh hok
  by_cases h0 : 0 ≤ i
  · by_cases h1 : i < d.n
    · go_enter Tryz.func49, Tryz.ntmps49
      go_wp2
      go_ret
      exact ⟨by rw [Dv.has, decide_eq_true (p := 0 ≤ i ∧ i < d.n) ⟨h0, h1⟩]; rfl, rfl⟩
    · go_enter Tryz.func49, Tryz.ntmps49
      go_wp2
      go_ret
      exact ⟨by rw [Dv.has, decide_eq_false (p := 0 ≤ i ∧ i < d.n) (by omega)]; rfl, rfl⟩
  · go_enter Tryz.func49, Tryz.ntmps49
    go_wp2
    go_ret
    exact ⟨by rw [Dv.has, decide_eq_false (p := 0 ≤ i ∧ i < d.n) (by omega)]; rfl, rfl⟩

end Go.Proofs.YtjekcaoonaniaaaGreat
