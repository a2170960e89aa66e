/-
  Contract of dotterelref19.Choose: the first ones of the loads in their order. Conditions: what the slice reads as.
-/
import Derived.Test.YtfigohlgckandaaPlcOrd
import Derived.Test.YtfigohlgckandaaMade
import Derived.Maps.OwnOps
import Derived.Laws.OwnMore
import Derived.Deep.QuietTactic
import Derived.BigQuiet
namespace Go.Proofs.Ytfigohlgckandaa
open Go.ChangeShapes Go.WideShapes Go.ChangeAt Go.RowKit
set_option linter.unusedVariables false

/-! ### marks -/
def marksV (u : List Bool) : List Value := u.map fun b => .bool b
def MarkRow (w : World) (b : Nat) (u : List Bool) : Prop := w.heap[b]? = some (.cells (marksV u).toArray 4 (0, 0))
theorem MarkRow.below {w w' : World} {b : Nat} {u : List Bool} (h : MarkRow w b u) (hb : Below w.heap.size w w') : MarkRow w' b u := (hb.block b (Array.getElem?_eq_some_iff.1 h).1).trans h
theorem MarkRow.turned {p : Nat → Prop} {w w' : World} {b : Nat} {u : List Bool} (h : MarkRow w b u) (ht : Turned p w w') (hp : ¬ p b) : MarkRow w' b u := ht.heap h hp
theorem MarkRow.get {w : World} {b i : Nat} {u : List Bool} {x : Bool} (h : MarkRow w b u) (hi : u[i]? = some x) : w.cell? ⟨b, i, none⟩ = some (.bool x) := by
  rw [row_cell h]
  simp [marksV, hi]
theorem MarkRow.set {w : World} {b : Nat} {u : List Bool} (h : MarkRow w b u) (i : Nat) (x : Bool) : MarkRow (w.setCell ⟨b, i, none⟩ (.bool x)) b (u.set i x) := by
  have := row_set h i (.bool x)
  unfold MarkRow
  rw [this]
  congr 2
  simp [marksV, List.map_set]
theorem MarkRow.frozen {w : World} {b : Nat} {u : List Bool} (h : MarkRow w b u) (i : Nat) : w.frozen? ⟨b, i, none⟩ = false := row_frozen h _
theorem MarkRow.lt {w : World} {b : Nat} {u : List Bool} (h : MarkRow w b u) : b < w.heap.size := (Array.getElem?_eq_some_iff.1 h).1
theorem made_marks (n : Nat) : (madeCells (Value.bool false).cells (n * 1)).toList = marksV (List.replicate n false) := by
  rw [Nat.mul_one]
  apply List.ext_getElem?
  intro j
  simp only [madeCells, Array.getElem?_toList, Array.getElem?_map, marksV, List.getElem?_map, List.getElem?_replicate, Array.getElem?_range]
  split
  · simp [Value.cells, Nat.mod_one]
  · rfl
theorem MarkRow.made {w : World} {base b n : Nat} (h : w.ownsRow base 4 1 (.slice (some ⟨b, 0, none⟩) n n) n (madeCells (Value.bool false).cells (n * 1)).toList) : MarkRow w b (List.replicate n false) := by
  have hl : (madeCells (Value.bool false).cells (n * 1)).toList.length = n * 1 := by rw [Array.length_toList, size_madeCells]
  have := made_blk h hl
  unfold MarkRow
  rw [this]
  congr 2
  rw [made_marks]
theorem bool_info : (Try.prog.info? 4).map (fun i => (i.zero, i.size, i.bytes)) = some (some (.bool false), 1, 1) := by kernel_rfl

/-! ### the best one so far -/
def Best (l : List Ent) (u : List Bool) (i : Nat) (v : Int) : Prop :=
  (v = -1 ∧ ∀ (j : Nat), j < i → u[j]? ≠ some false) ∨ (∃ (a : Nat) (x : Ent), v = (a : Int) ∧ a < i ∧ l[a]? = some x ∧ u[a]? = some false ∧ ∀ (j : Nat) y, j < i → l[j]? = some y → u[j]? = some false → ¬ ahead y x)
theorem Best.none_ (l : List Ent) (u : List Bool) : Best l u 0 (-1) := .inl ⟨rfl, fun j h => by omega⟩
theorem Best.used {l : List Ent} {u : List Bool} {i : Nat} {v : Int} (h : Best l u i v) (hu : u[i]? = some true) : Best l u (i + 1) v := by
  rcases h with ⟨h1, h2⟩ | ⟨a, x, h1, h2, h3, h4, h5⟩
  · refine .inl ⟨h1, fun j hj => ?_⟩
    rcases (by omega : j < i ∨ j = i) with h | rfl
    · exact h2 j h
    · rw [hu]; simp
  · refine .inr ⟨a, x, h1, by omega, h3, h4, fun j y hj hy hn => ?_⟩
    rcases (by omega : j < i ∨ j = i) with h | rfl
    · exact h5 j y h hy hn
    · rw [hu] at hn; cases hn
theorem Best.keep {l : List Ent} {u : List Bool} {i a : Nat} {x y : Ent} (ha : a < i) (h3 : l[a]? = some x) (h4 : u[a]? = some false) (h5 : ∀ (j : Nat) y, j < i → l[j]? = some y → u[j]? = some false → ¬ ahead y x) (hy : l[i]? = some y) (hn : ¬ ahead y x) : Best l u (i + 1) (a : Int) := by
  refine .inr ⟨a, x, rfl, by omega, h3, h4, fun j z hj hz hu => ?_⟩
  rcases (by omega : j < i ∨ j = i) with h | rfl
  · exact h5 j z h hz hu
  · rw [hy] at hz
    injection hz with hz
    subst hz
    exact hn
theorem Best.first {l : List Ent} {u : List Bool} {i : Nat} {y : Ent} (h2 : ∀ (j : Nat), j < i → u[j]? ≠ some false) (hy : l[i]? = some y) (hu : u[i]? = some false) : Best l u (i + 1) (i : Int) := by
  refine .inr ⟨i, y, rfl, by omega, hy, hu, fun j z hj hz hn => ?_⟩
  rcases (by omega : j < i ∨ j = i) with h | rfl
  · exact absurd hn (h2 j h)
  · rw [hy] at hz
    injection hz with hz
    subst hz
    exact ahead_irr _
theorem Best.better {l : List Ent} {u : List Bool} {i : Nat} {x y : Ent} (h5 : ∀ (j : Nat) y, j < i → l[j]? = some y → u[j]? = some false → ¬ ahead y x) (hy : l[i]? = some y) (hu : u[i]? = some false) (hb : ahead y x) : Best l u (i + 1) (i : Int) := by
  refine .inr ⟨i, y, rfl, by omega, hy, hu, fun j z hj hz hn => ?_⟩
  rcases (by omega : j < i ∨ j = i) with h | rfl
  · intro hzy
    exact h5 j z h hz hn (ahead_trans hzy hb)
  · rw [hy] at hz
    injection hz with hz
    subst hz
    exact ahead_irr _
theorem Best.done {l : List Ent} {u : List Bool} {m : Nat} {v : Int} (h : Best l u l.length v) (ht : Taken l u m) (hm : m < l.length) :
    ∃ (a : Nat) (x : Ent), v = (a : Int) ∧ a < l.length ∧ l[a]? = some x ∧ (sortE l)[m]? = some x ∧ Taken l (u.set a true) (m + 1) := by
  rcases h with ⟨h1, h2⟩ | ⟨a, x, h1, h2, h3, h4, h5⟩
  · obtain ⟨i, x, hi, hu⟩ := ht.some_left hm
    exact absurd hu (h2 i (List.getElem?_eq_some_iff.1 hi).1)
  · obtain ⟨k1, k2⟩ := ht.next h3 h4 fun j y hj hn => h5 j y (List.getElem?_eq_some_iff.1 hj).1 hj hn
    exact ⟨a, x, h1, h2, h3, k1, k2⟩
def lenV : Value → Nat
  | .slice _ n _ => n
  | _ => 0
def idsE (l : List Ent) : List Int := l.map (·.1)
theorem idsE_length (l : List Ent) : (idsE l).length = l.length := by simp [idsE]
theorem idsE_snoc {l : List Ent} {m : Nat} {x : Ent} (h : l[m]? = some x) : idsE (l.take (m + 1)) = idsE (l.take m) ++ [x.1] := by
  rw [take_snocE h]
  simp [idsE]

-- a region most of whose operations aren't wanted: else each step weighs all that is left
attribute [local irreducible] wpQuiet
set_option maxRecDepth 100000 in
set_option maxHeartbeats 4000000 in
theorem RefChoose (A : Option Addr) (n c : Nat) (copies : Int) (l : List Ent) (w : World) (hl : l.length = n) (hn : n ≤ 100000) (hs : Seen w A (entsV l)) :
    Calls Try.prog 8 #[.slice A n c, .int .i64 copies] w (IntsRet (chooseF l copies) w) := by
  obtain ⟨i0, hi0, hz0, hz1, hz2⟩ := info_parts bool_info
  have HI := Lib.hid (And.intro hi0 (And.intro hz0 (And.intro hz1 hz2)))
  have HS := Lib.hid hs; have Hl := Lib.hid hl
  clear hi0 hz0 hz1 hz2 hs hl
  go_enter Try.func8, Try.ntmps8
  go_wp2_with (at_make; go_loud (refine wpList_make_full _ rfl (.tmp 10) (.tmp 10) _ rfl w.heap.size 4 i0 _ 1 Try.underlying37 HI.out.1 HI.out.2.1 HI.out.2.2.1 .i64 .i64 _ _ n rfl rfl rfl rfl (by rw [HI.out.2.2.2]; omega) (by unfold maxLen; omega) (Nat.le_refl _) ?_; intro w1 hown1 hg1; have Hr1 := Lib.hid (MarkRow.made hown1); have Hb1 := Lib.hid ((Below.refl w.heap.size w).grown hg1 (Nat.le_refl _) (by simp)); clear hown1 hg1))
  go_loopw [5] (fun sv wr => ∃ (m : Nat) (u : List Bool) (A' : Option Addr) (c' : Nat), m ≤ copies.toNat ∧ sv = .slice A' m c' ∧ Taken l u m ∧ MarkRow wr w.heap.size u ∧ wr.ownsRow w1.heap.size 3 1 (.slice A' m c') m (numsV (idsE ((sortE l).take m))) ∧ Below w.heap.size w wr ∧ w1.heap.size ≤ wr.heap.size) (fun sv _ => n - lenV sv)
  case atStart => exact ⟨0, List.replicate n false, none, 0, Nat.zero_le _, rfl, by rw [← Hl.out]; exact Taken.new l, Hr1.out, World.ownsRow_nil _ _ _ _, Hb1.out, Nat.le_refl _⟩
  case round =>
    obtain ⟨wo, rfl⟩ : ∃ wo, wo = wr := ⟨_, rfl⟩
    obtain ⟨m, u, A', c', hmc, rfl, ht, hmk, ho, hb, hsz⟩ := hrel
    have hmn : m ≤ n := by have := ht.most; rw [Hl.out] at this; exact this
    have Ht := Lib.hid ht; have Hmk := Lib.hid hmk; have Ho := Lib.hid ho; have Hb := Lib.hid hb; have Hsz := Lib.hid hsz
    have Hul := Lib.hid (ht.len.trans Hl.out)
    clear ht hmk ho hb hsz
    by_cases hgo : (m : Int) < copies ∧ m < n
    · obtain ⟨g1, g2⟩ := hgo
      have g3 : (m : Int) < (n : Int) := by omega
      go_wp2
      go_loopw [7, 8] (fun av iv wi => ∃ i : Nat, i ≤ n ∧ iv = .int .i64 (i : Int) ∧ (∃ v : Int, av = .int .i64 v ∧ Best l u i v) ∧ Below wo.heap.size wo wi) (fun _ iv _ => n - (intOf iv).toNat)
      case atStart => exact ⟨0, Nat.zero_le _, rfl, ⟨-1, rfl, Best.none_ _ _⟩, Below.refl _ _⟩
      case round =>
        obtain ⟨i, hin, rfl, ⟨v, rfl, hbest⟩, hbi⟩ := hrel
        have Hbest := Lib.hid hbest; have Hbi := Lib.hid hbi
        clear hbest hbi
        by_cases hi : i < n
        · obtain ⟨y, hy⟩ : ∃ y, l[i]? = some y := ⟨_, List.getElem?_eq_getElem (by have := Hl.out; omega)⟩
          obtain ⟨b, hub⟩ : ∃ b, u[i]? = some b := ⟨_, List.getElem?_eq_getElem (by have := Hul.out; omega)⟩
          have k0 := (Hmk.out.below Hbi.out).get hub
          obtain ⟨g, o, rfl, d0, d1⟩ := (HS.out.below ((Hb.out.trans (Hbi.out.mono Hb.out.size)))).ent hy
          have j0 : (0 : Int) ≤ (i : Int) := by omega
          have j1 : (i : Int) < (n : Int) := by omega
          have Hub := Lib.hid hub; have Hy := Lib.hid hy
          clear hub hy
          cases b with
          | true =>
            clear d0 d1
            go_wp2
            go_quiet (fail)
            go_wp2
            go_roundw
            case rel => exact ⟨i + 1, by omega, by go_num, ⟨v, rfl, Hbest.out.used Hub.out⟩, below_drewN Hbi.out _⟩
            case measure => simp [intOf]; omega
          | false =>
            rcases Hbest.out with ⟨rfl, h2⟩ | ⟨a, x, rfl, ha, h3, h4, h5⟩
            · have H2 := Lib.hid h2
              clear h2 d0 d1
              go_wp2
              go_quiet (fail)
              go_wp2
              go_roundw
              case rel => exact ⟨i + 1, by omega, by go_num, ⟨(i : Int), rfl, Best.first H2.out Hy.out Hub.out⟩, below_drewN Hbi.out _⟩
              case measure => simp [intOf]; omega
            · obtain ⟨g', o', hA, c0, c1⟩ := (HS.out.below ((Hb.out.trans (Hbi.out.mono Hb.out.size)))).ent h3
              injection hA with hA
              injection hA with hA1 hA2 _
              subst hA1; subst hA2
              obtain ⟨y1, y2⟩ := y
              obtain ⟨x1, x2⟩ := x
              have a0 : ¬ (a : Int) < 0 := by omega
              have a1 : (0 : Int) ≤ (a : Int) := by omega
              have a2 : (a : Int) < (n : Int) := by omega
              have H3 := Lib.hid h3; have H4 := Lib.hid h4; have H5 := Lib.hid h5
              clear h3 h4 h5
              simp only at c0 c1 d0 d1
              by_cases q1 : y2 < x2
              · have Q1 := Lib.hid q1
                go_wp2
                go_quiet (fail)
                go_wp2
                go_roundw
                case rel => exact ⟨i + 1, by omega, by go_num, ⟨(i : Int), rfl, Best.better H5.out Hy.out Hub.out (.inl Q1.out)⟩, below_drewN Hbi.out _⟩
                case measure => simp [intOf]; omega
              · by_cases q2 : y2 = x2
                · subst q2
                  by_cases q3 : y1 < x1
                  · have Q3 := Lib.hid q3
                    go_wp2
                    go_quiet (fail)
                    go_wp2
                    go_roundw
                    case rel => exact ⟨i + 1, by omega, by go_num, ⟨(i : Int), rfl, Best.better H5.out Hy.out Hub.out (.inr ⟨rfl, Q3.out⟩)⟩, below_drewN Hbi.out _⟩
                    case measure => simp [intOf]; omega
                  · have Q3 := Lib.hid q3
                    go_wp2
                    go_quiet (fail)
                    go_wp2
                    go_roundw
                    case rel => exact ⟨i + 1, by omega, by go_num, ⟨(a : Int), rfl, Best.keep ha H3.out H4.out H5.out Hy.out (by have := Q3.out; unfold ahead; simp only; omega)⟩, below_drewN Hbi.out _⟩
                    case measure => simp [intOf]; omega
                · have hq2 : (y2 == x2) = false := by simpa using q2
                  have Q1 := Lib.hid q1; have Q2 := Lib.hid q2
                  clear q2
                  go_wp2
                  go_quiet (fail)
                  go_wp2
                  go_roundw
                  case rel => exact ⟨i + 1, by omega, by go_num, ⟨(a : Int), rfl, Best.keep ha H3.out H4.out H5.out Hy.out (by have := Q1.out; have := Q2.out; unfold ahead; simp only; omega)⟩, below_drewN Hbi.out _⟩
                  case measure => simp [intOf]; omega
        · obtain rfl : i = n := by omega
          have i1 : ¬ (i : Int) < (i : Int) := by omega
          have hbest := Hbest.out
          rw [← Hl.out] at hbest
          obtain ⟨a, x, rfl, ha, hx, hsx, ht2⟩ := hbest.done Ht.out (by rw [Hl.out]; exact g2)
          rw [Hl.out] at ha
          obtain ⟨b, hub⟩ : ∃ b, u[a]? = some b := ⟨_, List.getElem?_eq_getElem (by have := Hul.out; omega)⟩
          have k0 := (Hmk.out.below Hbi.out).get hub
          have kf := (Hmk.out.below Hbi.out).frozen a
          have Hms := Lib.hid ((Hmk.out.below Hbi.out).set a true)
          obtain ⟨g, o, rfl, d0, d1⟩ := (HS.out.below ((Hb.out.trans (Hbi.out.mono Hb.out.size)))).ent hx
          have a1 : (0 : Int) ≤ (a : Int) := by omega
          have a2 : (a : Int) < (i : Int) := by omega
          obtain ⟨W3, hW3⟩ : ∃ W3, wr.setCell ⟨w.heap.size, a, none⟩ (.bool true) = W3 := ⟨_, rfl⟩
          have hb3 : Below w.heap.size w W3 := by rw [← hW3]; exact (Hb.out.trans (Hbi.out.mono Hb.out.size)).setCell (p := ⟨w.heap.size, a, none⟩) (Nat.le_refl _) _
          have hl3 : wr.heap.size = W3.heap.size := by rw [← hW3]; simp [World.setCell]
          have hm3 : MarkRow W3 w.heap.size (u.set a true) := by rw [← hW3]; exact Hms.out
          have ho3 : W3.ownsRow w1.heap.size 3 1 (.slice A' m c') m (numsV (idsE ((sortE l).take m))) := by
            have h1 := own_belowM Ho.out Hbi.out
            have h2 : Turned (fun k => k = w.heap.size) wr W3 := by rw [← hW3]; exact (Turned.refl (fun k => k = w.heap.size) wr).setCell (b := ⟨w.heap.size, a, none⟩) (fun _ => rfl) _
            exact own_turnedM h2 h1 fun k hk e => by have := (h1.lt k hk).1; have := Hr1.out.lt; omega
          clear d0 d1
          obtain ⟨x1, x2⟩ := x
          obtain ⟨g', o', hA, c0, c1⟩ := (HS.out.below hb3).ent hx
          injection hA with hA
          injection hA with hA1 hA2 _
          subst hA1; subst hA2
          simp only at c0 c1
          obtain ⟨Wb, hWb⟩ : ∃ Wb, W3.alloc (.cells #[.int .i64 x1] 3) = Wb := ⟨_, rfl⟩
          have hbb : Below W3.heap.size W3 Wb := by rw [← hWb]; exact (Below.refl _ _).alloc (Nat.le_refl _) _
          have hsb : Seen Wb (some ⟨W3.heap.size, 0, none⟩) [.int .i64 x1] := by rw [← hWb]; exact Seen.of_cells (heap_alloc_new W3 _)
          have Hmb := Lib.hid (hm3.below hbb); have Hob := Lib.hid (own_belowM ho3 hbb); have Hbb := Lib.hid (hb3.trans (hbb.mono hb3.size)); have Hsb := Lib.hid hsb
          have Hsz2 := Lib.hid (show w1.heap.size ≤ Wb.heap.size from Nat.le_trans Hsz.out (Nat.le_trans Hbi.out.size (by rw [hl3]; exact hbb.size)))
          have Hsx := Lib.hid hsx; have Ht2 := Lib.hid ht2
          clear hb3 hl3 hm3 ho3 hbb hsb hsx ht2 hub hbest
          have hm9 : m ≤ 100000 := by omega
          go_wp2_with (at_builtin; refine wpList_app2 rfl (.tmp 81) (.tmp 87) _ rfl 3 _ 8 Try.underlying26 int_info rfl w1.heap.size A' m c' (numsV (idsE ((sortE l).take m))) rfl Hob.out (some ⟨W3.heap.size, 0, none⟩) 1 1 [.int .i64 x1] rfl rfl Hsb.out (fun u hu => by simp at hu; subst hu; rfl) (by unfold maxLen; omega) (by omega) Hsz2.out ?_; intro A4 c4 w4 hown4 hg4 hbk4; have Hown4 := Lib.hid hown4; have Hg4 := Lib.hid hg4; clear hown4 hg4 hbk4)
          go_roundw
          case rel =>
            have tg : Turned (fun k => (Value.slice A' m c').ownBlock = some k) Wb w4 := Turned.of_grown Hg4.out fun k e => e
            have hw1 := Hb1.out.size
            refine ⟨m + 1, u.set a true, A4, c4, by omega, rfl, Ht2.out, Hmb.out.turned tg (fun e => by have := (Hob.out.lt _ e).1; have := Hr1.out.lt; omega), ?_, Hbb.out.trans (tg.below (fun k e => Nat.le_trans hw1 (Hob.out.lt k e).1) Hbb.out.size), Nat.le_trans Hsz2.out tg.size⟩
            rw [idsE_snoc Hsx.out, numsV_append]
            exact Hown4.out
          case measure => simp [lenV]; omega
    · have hend : chooseF l copies = idsE ((sortE l).take m) := by
        unfold chooseF idsE
        have hsl := sortE_length l
        rw [Hl.out] at hsl
        by_cases h1 : (m : Int) < copies
        · have : m = n := by omega
          rw [List.take_of_length_le (by omega), List.take_of_length_le (by omega)]
        · rw [show copies.toNat = m by omega]
      have Hend := Lib.hid hend
      have hlen : (idsE ((sortE l).take m)).length = m := by rw [idsE_length, List.length_take, sortE_length, Hl.out]; omega
      have Hlen := Lib.hid hlen
      clear hend hlen
      by_cases h1 : (m : Int) < copies
      · have h2 : ¬ (m : Int) < (n : Int) := by omega
        clear hgo
        go_wp2
        go_ret
        refine ⟨A', c', ?_, ?_, Hb.out⟩
        · rw [Hend.out, Hlen.out]; rfl
        · rw [Hend.out, Hlen.out]
          exact own_baseM Ho.out Hb1.out.size
      · clear hgo
        go_wp2
        go_ret
        refine ⟨A', c', ?_, ?_, Hb.out⟩
        · rw [Hend.out, Hlen.out]; rfl
        · rw [Hend.out, Hlen.out]
          exact own_baseM Ho.out Hb1.out.size
end Go.Proofs.Ytfigohlgckandaa
