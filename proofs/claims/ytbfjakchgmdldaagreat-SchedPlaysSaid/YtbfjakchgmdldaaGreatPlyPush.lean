/-
  dotterelref12's Push: what it hands back. Conditions: what the slice reads as, how many it is at most, and numbers that an int holds.
-/
import Derived.Test.YtbfjakchgmdldaaGreatPlySet
import Derived.Test.YtbfjakchgmdldaaGreatPlyMath
import Derived.Test.YtbfjakchgmdldaaGreatClkW
import Derived.Deep.RegionWith
import Derived.Deep.DeepCutAuto
namespace Go.Proofs.YtbfjakchgmdldaaGreat
open Go.ChangeShapes Go.WideShapes Go.ChangeAt Go.RowKit
set_option linter.unusedVariables false

/-- the flow behind a push, by the document -/
def pushedY (y : List RF) (f : Fl) (now : Int) (it : Itm) (f' : Fl) : Prop := (f.q ≠ [] ∧ f' = pushFl f it) ∨ (f.q = [] ∧ ∃ l, LeastY y l ∧ f' = wokeFl f now l it)
def PushY (y : List RF) (id : Int) (it : Itm) (now : Int) (w w' : World) (e : Int) (y' : List RF) : Prop :=
  (e = 7 ∧ y' = y ∧ ∀ r ∈ y, r.id ≠ id) ∨ (e = 6 ∧ y' = y ∧ ∃ (i : Nat) (r : RF), y[i]? = some r ∧ r.id = id ∧ 1024 ≤ r.f.q.length) ∨
  (e = 0 ∧ ∃ (i : Nat) (r r' : RF), y[i]? = some r ∧ r.id = id ∧ r.f.q.length < 1024 ∧ y' = y.set i r' ∧ r'.id = id ∧ pushedY y r.f now it r'.f ∧ QAt w' 0 (rfQ r') r'.f.q ∧ ∀ g, (rfQ r').ownBlock = some g → w.heap.size ≤ g)
def RPushRet (y : List RF) (id : Int) (it : Itm) (now : Int) (w : World) (en : Ending) (w' : World) : Prop :=
  ∃ (e : Int) (y' : List RF) (A : Option Addr) (c : Nat), en = .returned (.tuple #[.slice A y'.length c, .int .i64 e]) ∧ PushY y id it now w w' e y' ∧ RowsRet y' w A c w'
theorem QAt.seen {w : World} {B : Nat} {A : Option Addr} {n c : Nat} {l : List Itm} (h : QAt w B (.slice A n c) l) : Seen w A (itsV l) := by
  rcases h with ⟨hv, rfl⟩ | ⟨g, o, cap, cur, hv, _, hh, _, _, _, hc⟩
  · exact .inl rfl
  · injection hv with hv
    subst hv
    exact .inr ⟨g, o, rfl, fun j u hu => by rw [row_cell hh]; exact hc j u hu⟩
theorem QAt.of_own {w : World} {B : Nat} {A : Option Addr} {n c : Nat} {l : List Itm} (h : w.ownsRow B 30 3 (.slice A n c) n (itsV l)) (hn : l.length = n) : QAt w B (.slice A n c) l := by
  rcases h.2 with ⟨hv, hx⟩ | ⟨g, cap, cur, hv, hB, hh, h1, h2, h3, hx⟩
  · injection hv with e1 e2 e3
    subst e1; subst e2; subst e3
    exact .inl ⟨rfl, List.length_eq_zero_iff.1 hn⟩
  · injection hv with e1 e2 e3
    subst e1; subst e3
    refine .inr ⟨g, 0, c, cur, by rw [hn], hB, hh, by rw [hn]; exact h1, h2, by rw [Nat.zero_add, h3]; exact Nat.le_refl _, fun j u hu => ?_⟩
    have := World.ownsRow.cells h (g := g) rfl j u hu
    rw [Addr.add_lit, row_cell hh] at this
    exact this
theorem Seen.of_box {w : World} {g : Nat} {it : Itm} (h : w.heap[g]? = some (.cells #[.int .i64 it.na, .int .i64 it.de, .int .i64 it.rh] 30 (0, 0))) : Seen w (some ⟨g, 0, none⟩) (itsV [it]) := Seen.of_cells h
/-- a new queue laid into a flow's box -/
theorem box_queue {w w6 : World} {g m : Nat} {r3 : RF} {A6 : Option Addr} {c6 : Nat} {q : List Itm} (hx : w6.heap[g]? = some (.cells (rfArr r3) 49 (0, 0))) (hm : r3.f.q.length = m) (ho : w6.ownsRow w.heap.size 30 3 (.slice A6 (m + 1) c6) (m + 1) (itsV (r3.f.q ++ q))) (hb : Below w.heap.size w w6) (hq : q.length = 1 := by rfl) :
    (w6.setCell ⟨g, 9, none⟩ (.slice A6 (m + 1) c6)).heap[g]? = some (.cells (rfArr { id := r3.id, f := { r3.f with q := r3.f.q ++ q }, A := A6, c := c6 }) 49 (0, 0)) ∧ QAt (w6.setCell ⟨g, 9, none⟩ (.slice A6 (m + 1) c6)) 0 (.slice A6 (m + 1) c6) (r3.f.q ++ q) ∧ (∀ x, (Value.slice A6 (m + 1) c6).ownBlock = some x → w.heap.size ≤ x) ∧ Turned (fun j => j = g ∨ w.heap.size ≤ j) w (w6.setCell ⟨g, 9, none⟩ (.slice A6 (m + 1) c6)) := by
  have hlen : (r3.f.q ++ q).length = m + 1 := by rw [List.length_append, hm, hq]
  have hs := row_set hx 9 (.slice A6 (m + 1) c6)
  have hng : ∀ x, (Value.slice A6 (m + 1) c6).ownBlock = some x → ¬ x = g := fun x hx2 e => by
    obtain ⟨cs, h2⟩ := row_blockM ho hx2
    exact absurd e (cells_ne h2 hx (by decide))
  refine ⟨?_, ?_, fun x hx2 => (ho.lt x hx2).1, ?_⟩
  · rw [hs]
    unfold rfArr
    rw [hlen]
    rfl
  · have h1 := QAt.of_own ho hlen
    have h2 : QAt w6 0 (.slice A6 (m + 1) c6) (r3.f.q ++ q) := by
      rcases h1 with h | ⟨g', o, cap, cur, hv, hB, hr⟩
      · exact .inl h
      · exact .inr ⟨g', o, cap, cur, hv, Nat.zero_le _, hr⟩
    exact h2.turned (set_wo (g := g) 9 _) hng
  · exact (Turned.of_below hb).trans (set_wo (g := g) 9 _) (fun _ e => e) fun _ _ e => .inl e
theorem timesF_comm (a b : Int) : timesF a b = timesF b a := by unfold timesF; rw [Int.mul_comm]
/-- the loop for the least P -/
def LeastAt (y : List RF) (k : Nat) (l : Int) (b : Bool) : Prop := (b = false ∧ l = 0 ∧ ∀ (j : Nat) s, j < k → y[j]? = some s → s.f.q = []) ∨ (b = true ∧ ∃ (j : Nat) (s : RF), j < k ∧ y[j]? = some s ∧ s.f.q ≠ [] ∧ l = s.f.c.p ∧ ∀ (j' : Nat) s', j' < k → y[j']? = some s' → s'.f.q ≠ [] → l ≤ s'.f.c.p)
theorem LeastAt.least {y : List RF} {l : Int} {b : Bool} (h : LeastAt y y.length l b) : LeastY y l := by
  rcases h with ⟨_, rfl, hn⟩ | ⟨_, j, s, _, hs, hq, rfl, hm⟩
  · refine .inl ⟨fun r hr => ?_, rfl⟩
    obtain ⟨j, hj⟩ := List.mem_iff_getElem?.1 hr
    exact hn j r (List.getElem?_eq_some_iff.1 hj).1 hj
  · refine .inr ⟨s, List.mem_of_getElem? hs, hq, rfl, fun r hr hrq => ?_⟩
    obtain ⟨j', hj'⟩ := List.mem_iff_getElem?.1 hr
    exact hm j' r (List.getElem?_eq_some_iff.1 hj').1 hj' hrq
theorem LeastAt.more {y : List RF} {k : Nat} {l : Int} {b : Bool} {r : RF} (h : LeastAt y k l b) (hr : y[k]? = some r) :
    (r.f.q = [] → LeastAt y (k + 1) l b) ∧ (r.f.q ≠ [] → b = false → LeastAt y (k + 1) r.f.c.p true) ∧ (r.f.q ≠ [] → r.f.c.p < l → LeastAt y (k + 1) r.f.c.p true) ∧ (r.f.q ≠ [] → b = true → ¬ r.f.c.p < l → LeastAt y (k + 1) l b) := by
  have hk : ∀ {j : Nat} {s}, j < k + 1 → y[j]? = some s → j < k ∨ s = r := fun {j s} hj hs => by
    by_cases e : j = k
    · subst e
      rw [hr] at hs
      injection hs with hs
      exact .inr hs.symm
    · exact .inl (by omega)
  rcases h with ⟨rfl, rfl, hn⟩ | ⟨rfl, j, s, hj, hs, hq, rfl, hm⟩
  · refine ⟨fun h => .inl ⟨rfl, rfl, fun j s hj hs => ?_⟩, fun h _ => .inr ⟨rfl, k, r, by omega, hr, h, rfl, fun j s hj hs hsq => ?_⟩, fun h _ => .inr ⟨rfl, k, r, by omega, hr, h, rfl, fun j s hj hs hsq => ?_⟩, fun _ h => by cases h⟩
    · rcases hk hj hs with h1 | rfl
      · exact hn j s h1 hs
      · exact h
    · rcases hk hj hs with h1 | rfl
      · exact absurd (hn j s h1 hs) hsq
      · exact Int.le_refl _
    · rcases hk hj hs with h1 | rfl
      · exact absurd (hn j s h1 hs) hsq
      · exact Int.le_refl _
  · refine ⟨fun h => .inr ⟨rfl, j, s, by omega, hs, hq, rfl, fun j' s' hj' hs' hsq => ?_⟩, fun _ h => (by cases h), fun h hlt => .inr ⟨rfl, k, r, by omega, hr, h, rfl, fun j' s' hj' hs' hsq => ?_⟩, fun h _ hge => .inr ⟨rfl, j, s, by omega, hs, hq, rfl, fun j' s' hj' hs' hsq => ?_⟩⟩
    · rcases hk hj' hs' with h1 | rfl
      · exact hm j' s' h1 hs' hsq
      · exact absurd h hsq
    · rcases hk hj' hs' with h1 | rfl
      · have := hm j' s' h1 hs' hsq; omega
      · exact Int.le_refl _
    · rcases hk hj' hs' with h1 | rfl
      · exact hm j' s' h1 hs' hsq
      · omega
theorem box_clk {w : World} {g : Nat} {r : RF} (h : w.heap[g]? = some (.cells (rfArr r) 49 (0, 0))) (c : Clk) :
    ∃ W, (stClk (.pointer (some ⟨g, 6, none⟩)) (.agg #[.int .i64 c.r, .int .i64 c.p, .int .i64 c.l])).run Tryz.prog w = .ok () W ∧ W.heap[g]? = some (.cells (rfArr { r with f := { r.f with c := c } }) 49 (0, 0)) ∧ Turned (fun j => j = g) w W := by
  have hth : w.there g 6 3 := fun j hj => by
    refine ⟨?_, row_frozen h _⟩
    rw [row_cell h, Array.getElem?_eq_getElem (by show 6 + j < 10; omega)]
    rfl
  exact ⟨_, run_storeAt_mid w g 6 46 #[.int .i64 c.r, .int .i64 c.p, .int .i64 c.l] hth clk_info (by simp [Value.oneCell']), row_set (row_set (row_set h 6 (.int .i64 c.r)) 7 (.int .i64 c.p)) 8 (.int .i64 c.l), turned_cells (p := fun j => j = g) (fun _ => rfl) _ _ _ (Turned.refl _ _)⟩
theorem box_ldClk {w : World} {g : Nat} {r : RF} (h : w.heap[g]? = some (.cells (rfArr r) 49 (0, 0))) : (ldClk (.pointer (some ⟨g, 6, none⟩))).run Tryz.prog w = .ok (.agg #[.int .i64 r.f.c.r, .int .i64 r.f.c.p, .int .i64 r.f.c.l]) w := by
  have hr : w.rangeAt g 6 [.int .i64 r.f.c.r, .int .i64 r.f.c.p, .int .i64 r.f.c.l] := fun j v hv => by
    match j, hv with
    | 0, hv => simp at hv; subst hv; exact row_cell h 6
    | 1, hv => simp at hv; subst hv; exact row_cell h 7
    | 2, hv => simp at hv; subst hv; exact row_cell h 8
  exact run_loadAt_mid w g 6 46 [.int .i64 r.f.c.r, .int .i64 r.f.c.p, .int .i64 r.f.c.l] _ hr Tryz.underlying46 rfl clk_info

attribute [local go_sem ↓] ldItm_eq ldClk_eq stClk_eq ldFlow_eq
set_option maxRecDepth 100000 in
set_option maxHeartbeats 4000000 in
theorem RPush_none (A : Option Addr) (n c : Nat) (y : List RF) (id now : Int) (it : Itm) (w : World) (hl : y.length = n) (hn : n ≤ 100000) (hnc : n ≤ c ∧ c ≤ maxLen) (hs : RowAt w A 49 (rfsV y)) (hno : ∀ r ∈ y, r.id ≠ id) :
    Calls Tryz.prog 8 #[.slice A n c, .int .i64 id, .agg #[.int .i64 it.na, .int .i64 it.de, .int .i64 it.rh], .int .i64 now] w (RPushRet y id it now w) := by
  obtain ⟨w1, hw1, hb1, hx1⟩ := itm_box w it
  have KA := Lib.hid (RAt_any A n c y id w1 hl hn (hs.seen.below hb1))
  have Key := Lib.hid (show RPushRet y id it now w (.returned (.tuple #[.slice A n c, .int .i64 7])) w1 from ⟨7, y, A, c, by rw [hl], .inl ⟨rfl, rfl, hno⟩, hs.below hb1, by rw [hl]; exact hnc, hb1⟩)
  have Hno := Lib.hid hno
  clear hb1 hx1 hno hl hnc hs
  go_enter Tryz.func8, Tryz.ntmps8
  go_wp2_with (go_at_call 12; refine KA.out.mono ?_; rintro e w3 ⟨v, rfl, hv3, rfl⟩; obtain rfl := at_none hv3 Hno.out; clear hv3)
  go_ret2
  exact Key.out
set_option maxRecDepth 100000 in
set_option maxHeartbeats 8000000 in
theorem RPush_has (A : Option Addr) (n c i : Nat) (y : List RF) (r : RF) (id now : Int) (it : Itm) (w : World) (hl : y.length = n) (hn : n ≤ 100000) (hnc : n ≤ c ∧ c ≤ maxLen) (hs : RowAt w A 49 (rfsV y)) (hi : y[i]? = some r) (hid : r.id = id) (hone : ∀ (j : Nat) s, y[j]? = some s → s.id = id → j = i) (hq : QAt w 0 (rfQ r) r.f.q) (hnow : inI now) :
    Calls Tryz.prog 8 #[.slice A n c, .int .i64 id, .agg #[.int .i64 it.na, .int .i64 it.de, .int .i64 it.rh], .int .i64 now] w (RPushRet y id it now w) := by
  obtain ⟨w1, hw1, hb1, hx1⟩ := itm_box w it
  have KA := Lib.hid (RAt_any A n c y id w1 hl hn (hs.seen.below hb1))
  have hin : i < n := by rw [← hl]; exact (List.getElem?_eq_some_iff.1 hi).1
  have KW := Lib.hid (fun (W : World) (hb : Below w.heap.size w W) (r' : RF) => RWith_any A n c i y r' W hl hn hin (hs.seen.below hb))
  obtain ⟨ga, o, rfl, hc⟩ := hs.seen.rf hi
  have HC := Lib.hid (fun (W : World) (hb : Below w.heap.size w W) (j : Nat) v (hv : (rfV r)[j]? = some v) => show W.cell? ⟨ga, o + i * 10 + j, none⟩ = some v from (hb.cell (block_lt_of_cell (hc j v hv))).trans (hc j v hv))
  have HSn := Lib.hid (fun (W : World) (hb : Below w.heap.size w W) => show Seen W (some ⟨ga, o, none⟩) (rfsV y) from hs.seen.below hb)
  have HQ := Lib.hid (fun (W : World) (hb : Below w.heap.size w W) => show QAt W 0 (rfQ r) r.f.q from hq.below hb)
  have Key6 := Lib.hid (fun (W : World) (hb : Below w.heap.size w W) (hlt : 1024 ≤ r.f.q.length) => show RPushRet y id it now w (.returned (.tuple #[.slice (some ⟨ga, o, none⟩) n c, .int .i64 6])) W from ⟨6, y, _, c, by rw [hl], .inr (.inl ⟨rfl, rfl, i, r, hi, hid, hlt⟩), hs.below hb, by rw [hl]; exact hnc, hb⟩)
  have Hb1 := Lib.hid hb1; have Hl := Lib.hid hl; have Hi := Lib.hid hi; have Hidr := Lib.hid hid; have Hone := Lib.hid hone; have Hx1 := Lib.hid hx1; have Hnow := Lib.hid hnow
  have d9 : w1.cell? ⟨ga, o + i * 10 + 9, none⟩ = some (.slice r.A r.f.q.length r.c) := HC.out w1 hb1 9 _ rfl
  have i0 : (0 : Int) ≤ (i : Int) := by omega
  have i1 : (i : Int) < (n : Int) := by omega
  have i2 : ¬ (i : Int) < 0 := by omega
  clear hb1 hl hi hid hone hnc hs hc hq hx1 hnow
  go_enter Tryz.func8, Tryz.ntmps8
  go_upto_region 4 with (go_at_call 12; refine KA.out.mono ?_; rintro e w3 ⟨v, rfl, hv3, rfl⟩; obtain rfl := at_has hv3 Hi.out Hidr.out Hone.out; clear hv3)
  clear hw1
  obtain ⟨m, hm⟩ : ∃ m, r.f.q.length = m := ⟨_, rfl⟩
  rw [hm] at d9
  by_cases hfull : 1024 ≤ m
  · have hf : (1024 : Int) ≤ (m : Int) := by omega
    go_wp2
    go_ret2
    exact Key6.out _ Hb1.out (by omega)
  · have hf : ¬ (1024 : Int) ≤ (m : Int) := by omega
    have hld := ldFlow_run (r := r) (fun j v hv => HC.out w1 Hb1.out j v hv)
    obtain ⟨w2, hw2, hb2, hx2⟩ := rf_box w1 r
    have hc2 : w2.cell? ⟨w1.heap.size, 9, none⟩ = some (.slice r.A m r.c) := by rw [row_cell hx2, ← hm]; rfl
    have Hb2 := Lib.hid (Hb1.out.trans (hb2.mono Hb1.out.size)); have Hx2 := Lib.hid hx2; have Hm := Lib.hid hm
    have HL2 := Lib.hid hb2.size; have HB12 := Lib.hid hb2
    clear hb2 hx2 hm
    go_upto_if 36 with (refine wpList_store_row rfl 49 (.tmp 11) (.tmp 32) rfl w1.heap.size (rfArr r) rfl rfl 49 _ (heap_alloc_new _ _) rf_size rfl (by simp [rfArr, Value.oneCell']) ?_; rw [World.setRow_alloc_new, hw2])
    clear hw2 hld
    obtain ⟨g, hg⟩ : ∃ g, w1.heap.size = g := ⟨_, rfl⟩
    rw [hg] at Hx2 hc2 HL2 HB12 ⊢
    have Hg := Lib.hid hg
    clear hg
    go_cut [12] (fun v12 wx => ∃ r3 : RF, wx.heap[g]? = some (.cells (rfArr r3) 49 (0, 0)) ∧ (r3.id = r.id ∧ r3.A = r.A ∧ r3.c = r.c ∧ r3.f.q = r.f.q) ∧ ((r.f.q ≠ [] ∧ r3.f = r.f) ∨ (r.f.q = [] ∧ ∃ l, LeastY y l ∧ r3.f = { r.f with c := wakeF r.f.c (atF now) l })) ∧ Below w.heap.size w wx ∧ w2.heap.size ≤ wx.heap.size ∧ Below g w1 wx)
    case first =>
      by_cases hm0 : m = 0
      · subst hm0
        go_wp2
        clear d9 hc2
        go_loopw [12, 13, 14] (fun lv bv kv wr => ∃ (k : Nat) (l : Int) (b : Bool), lv = .int .i64 l ∧ bv = .bool b ∧ kv = .int .i64 (k : Int) ∧ k ≤ n ∧ LeastAt y k l b ∧ wr = w2) (fun _ _ kv _ => n - (intOf kv).toNat)
        case atStart => exact ⟨0, 0, false, rfl, rfl, rfl, by omega, .inl ⟨rfl, rfl, fun j s h => by omega⟩, rfl⟩
        case round =>
          obtain ⟨k, l, b, rfl, rfl, rfl, hkn, hla, rfl⟩ := hrel
          have Hla := Lib.hid hla
          clear hla
          have k0 : (0 : Int) ≤ (k : Int) := by omega
          by_cases hlt : k < n
          · have k1 : (k : Int) < (n : Int) := by omega
            have wk := wrap_in ((k : Int) + 1) (by omega) (by omega)
            obtain ⟨s, hs⟩ : ∃ s, y[k]? = some s := ⟨_, List.getElem?_eq_getElem (by rw [Hl.out]; exact hlt)⟩
            obtain ⟨ga', o', e9, hc⟩ := (HSn.out wr Hb2.out).rf hs
            injection e9 with e9
            injection e9 with e9 e10
            subst e9; subst e10
            obtain ⟨ms, hms⟩ : ∃ ms, s.f.q.length = ms := ⟨_, rfl⟩
            have d9 : wr.cell? ⟨ga, o + k * 10 + 9, none⟩ = some (.slice s.A ms s.c) := by rw [← hms]; exact hc 9 _ rfl
            have d7 : wr.cell? ⟨ga, o + k * 10 + 7, none⟩ = some (.int .i64 s.f.c.p) := hc 7 _ rfl
            obtain ⟨m1, m2, m3, m4⟩ := Hla.out.more hs
            have M1 := Lib.hid m1; have M2 := Lib.hid m2; have M3 := Lib.hid m3; have M4 := Lib.hid m4; have Hms := Lib.hid hms
            clear hc hs m1 m2 m3 m4 hms
            have hqz : ∀ h : ms = 0, s.f.q = [] := fun h => List.length_eq_zero_iff.1 (by rw [Hms.out, h])
            have hqn : ms ≠ 0 → s.f.q ≠ [] := fun h e => h (by rw [← Hms.out, e]; rfl)
            have Hqz := Lib.hid hqz; have Hqn := Lib.hid hqn
            clear hqz hqn
            by_cases hz : ms = 0
            · have hz1 : ¬ (0 : Int) < (ms : Int) := by omega
              have Hz := Lib.hid hz
              clear hz
              go_wp2
              go_roundw
              case rel => exact ⟨k + 1, l, b, rfl, rfl, by go_num, by omega, M1.out (Hqz.out Hz.out), trivial⟩
              case measure => simp [intOf]; omega
            · have hz1 : (0 : Int) < (ms : Int) := by omega
              have Hz := Lib.hid hz
              clear hz
              cases b with
              | false =>
                go_wp2
                go_roundw
                case rel => exact ⟨k + 1, s.f.c.p, true, rfl, rfl, by go_num, by omega, M2.out (Hqn.out Hz.out) rfl, trivial⟩
                case measure => simp [intOf]; omega
              | true =>
                by_cases hpl : s.f.c.p < l
                · go_wp2
                  go_roundw
                  case rel => exact ⟨k + 1, s.f.c.p, true, rfl, rfl, by go_num, by omega, M3.out (Hqn.out Hz.out) hpl, trivial⟩
                  case measure => simp [intOf]; omega
                · go_wp2
                  go_roundw
                  case rel => exact ⟨k + 1, l, true, rfl, rfl, by go_num, by omega, M4.out (Hqn.out Hz.out) rfl (by omega), trivial⟩
                  case measure => simp [intOf]; omega
          · obtain rfl : k = n := by omega
            have k1 : ¬ (k : Int) < (k : Int) := by omega
            clear hkn hlt
            have Hle := Lib.hid (show LeastY y l from LeastAt.least (b := b) (by rw [Hl.out]; exact Hla.out))
            have hld := box_ldClk (w := wr.drew) (g := g) (r := r) Hx2.out
            have KT := Lib.hid (fun W => Calls.stay (refTimes_any 65536 now W (by unfold inI; decide) Hnow.out))
            have KK := Lib.hid (RWake_any r.f.c (timesF 65536 now) l wr.drew)
            obtain ⟨cw, hcw⟩ : ∃ cw, wakeF r.f.c (timesF 65536 now) l = cw := ⟨_, rfl⟩
            rw [hcw] at KK
            have Hcw := Lib.hid hcw
            clear hcw
            go_upto_region 16 with fail
            go_region_with (first
              | (go_at_call 23; refine (KT.out _).mono ?_; rintro e w3 ⟨rfl, rfl⟩)
              | (go_at_call 22; refine KK.out.mono ?_; rintro e w3 ⟨rfl, hb3⟩; obtain ⟨w4, r4, hx4, t4⟩ := box_clk ((hb3.block g (Array.getElem?_eq_some_iff.1 Hx2.out).1).trans Hx2.out) cw; have Hx4 := Lib.hid hx4; have T4 := Lib.hid t4; have Hb3 := Lib.hid hb3; clear hb3 hx4 t4))
            all_goals
              go_wp2_with fail
              go_meet
              have hb3 : Below wr.heap.size wr w3 := Below.of_drew Hb3.out
              have hgB : w.heap.size ≤ g := by rw [← Hg.out]; exact Hb1.out.size
              have hg1 : g ≤ wr.heap.size := by rw [← Hg.out]; rw [← Hg.out] at HL2; exact HL2.out
              refine ⟨{ r with f := { r.f with c := cw } }, Hx4.out, ⟨rfl, rfl, rfl, rfl⟩, .inr ⟨List.length_eq_zero_iff.1 Hm.out, l, Hle.out, ?_⟩, ?_, Nat.le_trans hb3.size T4.out.size, ?_⟩
              · rw [← Hcw.out, timesF_comm]
                rfl
              · exact Hb2.out.trans ((hb3.mono Hb2.out.size).trans (T4.out.below (fun j hj => by rw [hj]; exact hgB) (Nat.le_trans Hb2.out.size hb3.size)))
              · exact HB12.out.trans ((hb3.mono hg1).trans (T4.out.below (fun j hj => by rw [hj]; exact Nat.le_refl _) (Nat.le_trans hg1 hb3.size)))
      · have hm1 : ¬ (m : Int) = 0 := by omega
        have hm2 : ((m : Int) == 0) = false := by simpa using hm1
        go_wp2
        go_meet
        exact ⟨r, Hx2.out, ⟨rfl, rfl, rfl, rfl⟩, .inl ⟨fun e => hm0 (by rw [← Hm.out, e]; rfl), rfl⟩, Hb2.out, Nat.le_refl _, HB12.out⟩
    case rest =>
      obtain ⟨wp, rfl⟩ : ∃ x, x = wc := ⟨_, rfl⟩
      obtain ⟨r3, hx3, ⟨hr1, hr2, hr3, hr4⟩, hpu, hbc, -, hgc⟩ := hcut
      have hgw : w.heap.size < g := by rw [← Hg.out]; exact (Array.getElem?_eq_some_iff.1 Hx1.out).1
      have hxi := (hgc.block _ hgw).trans Hx1.out
      have hglt := (Array.getElem?_eq_some_iff.1 hx3).1
      have hilt := (Array.getElem?_eq_some_iff.1 hxi).1
      have HD := Lib.hid (fun (W : World) (hb : Below wp.heap.size wp W) => show W.cell? ⟨g, 9, none⟩ = some (.slice r.A m r.c) by rw [row_cell ((hb.block g hglt).trans hx3), ← Hm.out, ← hr4, ← hr2, ← hr3]; rfl)
      have HZ := Lib.hid (fun (W : World) (hb : Below wp.heap.size wp W) => show W.frozen? ⟨g, 9, none⟩ = false from row_frozen ((hb.block g hglt).trans hx3) 9)
      have HIt := Lib.hid (fun (W : World) (hb : Below wp.heap.size wp W) => itm_run ((hb.block _ hilt).trans hxi))
      have HX3 := Lib.hid (fun (W : World) (hb : Below wp.heap.size wp W) => (hb.block g hglt).trans hx3)
      have HQs := Lib.hid (fun (W : World) (hb : Below wp.heap.size wp W) => show Seen W r.A (itsV r.f.q) from (HQ.out W (hbc.trans (hb.mono hbc.size))).seen)
      have Hml := Lib.hid (show (itsV r.f.q).length = m * 3 by rw [itsV_length, Hm.out])
      have Hpu := Lib.hid hpu; have Hbc := Lib.hid hbc; have Hr := Lib.hid (And.intro hr1 hr4)
      have hbE : Below wp.heap.size wp (wp.alloc (.cells #[] 30)).drew := (below_box wp (.cells #[] 30)).drew
      have hbI : Below wp.heap.size wp (wp.alloc (.cells #[.int .i64 it.na, .int .i64 it.de, .int .i64 it.rh] 30)).drew := (below_box wp (.cells #[.int .i64 it.na, .int .i64 it.de, .int .i64 it.rh] 30)).drew
      have hbEI : Below wp.heap.size wp ((wp.alloc (.cells #[] 30)).alloc (.cells #[.int .i64 it.na, .int .i64 it.de, .int .i64 it.rh] 30)).drew := (below_two wp (.cells #[] 30) (.cells #[.int .i64 it.na, .int .i64 it.de, .int .i64 it.rh] 30)).drew
      have hbIE : Below wp.heap.size wp ((wp.alloc (.cells #[.int .i64 it.na, .int .i64 it.de, .int .i64 it.rh] 30)).alloc (.cells #[] 30)).drew := (below_two wp (.cells #[.int .i64 it.na, .int .i64 it.de, .int .i64 it.rh] 30) (.cells #[] 30)).drew
      have OwnE := Lib.hid (show ((wp.alloc (.cells #[] 30)).drew).ownsRow wp.heap.size 30 3 (.slice (some ⟨wp.heap.size, 0, none⟩) 0 0) 0 [] from World.ownsRow_lit wp #[] 0 (Nat.le_refl _) (by unfold maxLen; omega) rfl)
      have OwnEI := Lib.hid (show (((wp.alloc (.cells #[] 30)).alloc (.cells #[.int .i64 it.na, .int .i64 it.de, .int .i64 it.rh] 30)).drew).ownsRow wp.heap.size 30 3 (.slice (some ⟨wp.heap.size, 0, none⟩) 0 0) 0 [] from own_belowM (World.ownsRow_lit (e := 30) wp #[] 0 (Nat.le_refl _) (by unfold maxLen; omega) rfl) (below_box _ (.cells #[.int .i64 it.na, .int .i64 it.de, .int .i64 it.rh] 30)).drew)
      have OwnIE := Lib.hid (show (((wp.alloc (.cells #[.int .i64 it.na, .int .i64 it.de, .int .i64 it.rh] 30)).alloc (.cells #[] 30)).drew).ownsRow wp.heap.size 30 3 (.slice (some ⟨wp.heap.size + 1, 0, none⟩) 0 0) 0 [] from (by have h := World.ownsRow_lit (base := wp.heap.size) (e := 30) (size := 3) (wp.alloc (.cells #[.int .i64 it.na, .int .i64 it.de, .int .i64 it.rh] 30)) #[] 0 (by simp) (by unfold maxLen; omega) rfl; rw [show (wp.alloc (.cells #[.int .i64 it.na, .int .i64 it.de, .int .i64 it.rh] 30)).heap.size = wp.heap.size + 1 by simp] at h; exact h))
      have f0 : wp.cell? ⟨g, 9, none⟩ = some (.slice r.A m r.c) := HD.out wp (Below.refl _ _)
      have f1 : (wp.alloc (.cells #[] 30)).cell? ⟨g, 9, none⟩ = some (.slice r.A m r.c) := HD.out _ (below_box wp (.cells #[] 30))
      have f2 : (wp.alloc (.cells #[.int .i64 it.na, .int .i64 it.de, .int .i64 it.rh] 30)).cell? ⟨g, 9, none⟩ = some (.slice r.A m r.c) := HD.out _ (below_box wp (.cells #[.int .i64 it.na, .int .i64 it.de, .int .i64 it.rh] 30))
      have f3 : ((wp.alloc (.cells #[] 30)).alloc (.cells #[.int .i64 it.na, .int .i64 it.de, .int .i64 it.rh] 30)).cell? ⟨g, 9, none⟩ = some (.slice r.A m r.c) := HD.out _ (below_two wp (.cells #[] 30) (.cells #[.int .i64 it.na, .int .i64 it.de, .int .i64 it.rh] 30))
      have f4 : ((wp.alloc (.cells #[.int .i64 it.na, .int .i64 it.de, .int .i64 it.rh] 30)).alloc (.cells #[] 30)).cell? ⟨g, 9, none⟩ = some (.slice r.A m r.c) := HD.out _ (below_two wp (.cells #[.int .i64 it.na, .int .i64 it.de, .int .i64 it.rh] 30) (.cells #[] 30))
      have j0 := HIt.out wp.drew ((Below.refl _ _).drew)
      have j1 := HIt.out _ hbE
      have HbE := Lib.hid hbE; have HbEI := Lib.hid hbEI; have HbIE := Lib.hid hbIE
      clear hx3 hr1 hr2 hr3 hr4 hpu hbc hgc hgw hxi hglt hilt hbE hbI hbEI hbIE hc2 d9 HB12 Hx2 HL2
      go_upto_region 17 with fail
      go_cut [83] (fun v wx => ∃ (A6 : Option Addr) (c6 : Nat), v = .slice A6 (m + 1) c6 ∧ wx.heap[g]? = some (.cells (rfArr { id := r3.id, f := { r3.f with q := r3.f.q ++ [it] }, A := A6, c := c6 }) 49 (0, 0)) ∧ QAt wx 0 (.slice A6 (m + 1) c6) (r3.f.q ++ [it]) ∧ (∀ x, (Value.slice A6 (m + 1) c6).ownBlock = some x → wp.heap.size ≤ x) ∧ Turned (fun j => j = g ∨ wp.heap.size ≤ j) wp wx)
      case first =>
        go_region_law (first
          | (refine step_app4 (by rfl) (.tmp 77) (.tmp 79) _ (by rfl) 30 _ 3 24 Tryz.underlying47 item_info rfl (by omega) wp.heap.size (some ⟨wp.heap.size, 0, none⟩) 0 0 [] (by rfl) OwnEI.out r.A m r.c (itsV r.f.q) (by rfl) Hml.out (HQs.out _ HbEI.out) (itsV_one _) (by unfold maxLen; omega) (by omega) HbEI.out.size ?_; intro A4 c4 w4 hown4 hg4; rw [Nat.zero_add, List.nil_append] at hown4; have hb4 : Below wp.heap.size wp w4 := HbEI.out.trans ((Turned.of_grown (p := fun x => (Value.slice (some ⟨wp.heap.size, 0, none⟩) 0 0).ownBlock = some x) hg4 fun x e => e).below (fun x e => by have e2 := own_is e; omega) HbEI.out.size); have hs4 : Seen w4 (some ⟨wp.heap.size + 1, 0, none⟩) (itsV [it]) := Seen.of_box ((hg4.block _ (by simp) (by simp [Value.ownBlock])).trans (heap_two wp _ _)); have HS4 := Lib.hid hs4; clear hs4; have d4 : w4.cell? ⟨g, 9, none⟩ = some (.slice r.A m r.c) := HD.out w4 hb4; have z4 : w4.frozen? ⟨g, 9, none⟩ = false := HZ.out w4 hb4; have i4 := HIt.out w4 hb4; have Own4 := Lib.hid hown4; have Hb4 := Lib.hid hb4; clear hown4 hg4 hb4; simp only [Nat.zero_add])
          | (refine step_app4 (by rfl) (.tmp 77) (.tmp 79) _ (by rfl) 30 _ 3 24 Tryz.underlying47 item_info rfl (by omega) wp.heap.size (some ⟨wp.heap.size + 1, 0, none⟩) 0 0 [] (by rfl) OwnIE.out r.A m r.c (itsV r.f.q) (by rfl) Hml.out (HQs.out _ HbIE.out) (itsV_one _) (by unfold maxLen; omega) (by omega) HbIE.out.size ?_; intro A4 c4 w4 hown4 hg4; rw [Nat.zero_add, List.nil_append] at hown4; have hb4 : Below wp.heap.size wp w4 := HbIE.out.trans ((Turned.of_grown (p := fun x => (Value.slice (some ⟨wp.heap.size + 1, 0, none⟩) 0 0).ownBlock = some x) hg4 fun x e => e).below (fun x e => by have e2 := own_is e; omega) HbIE.out.size); have hs4 : Seen w4 (some ⟨wp.heap.size, 0, none⟩) (itsV [it]) := Seen.of_box ((hg4.block wp.heap.size (by simp; omega) (by simp [Value.ownBlock])).trans (heap_two0 wp _ _)); have HS4 := Lib.hid hs4; clear hs4; have d4 : w4.cell? ⟨g, 9, none⟩ = some (.slice r.A m r.c) := HD.out w4 hb4; have z4 : w4.frozen? ⟨g, 9, none⟩ = false := HZ.out w4 hb4; have i4 := HIt.out w4 hb4; have Own4 := Lib.hid hown4; have Hb4 := Lib.hid hb4; clear hown4 hg4 hb4; simp only [Nat.zero_add])
          | (refine step_app4 (by rfl) (.tmp 77) (.tmp 79) _ (by rfl) 30 _ 3 24 Tryz.underlying47 item_info rfl (by omega) wp.heap.size (some ⟨wp.heap.size, 0, none⟩) 0 0 [] (by rfl) OwnE.out r.A m r.c (itsV r.f.q) (by rfl) Hml.out (HQs.out _ HbE.out) (itsV_one _) (by unfold maxLen; omega) (by omega) HbE.out.size ?_; intro A4 c4 w4 hown4 hg4; rw [Nat.zero_add, List.nil_append] at hown4; have hb4 : Below wp.heap.size wp w4 := HbE.out.trans ((Turned.of_grown (p := fun x => (Value.slice (some ⟨wp.heap.size, 0, none⟩) 0 0).ownBlock = some x) hg4 fun x e => e).below (fun x e => by have e2 := own_is e; omega) HbE.out.size); have d4 : w4.cell? ⟨g, 9, none⟩ = some (.slice r.A m r.c) := HD.out w4 hb4; have z4 : w4.frozen? ⟨g, 9, none⟩ = false := HZ.out w4 hb4; have i4 := HIt.out w4 hb4; have Own4 := Lib.hid hown4; have Hb4 := Lib.hid hb4; clear hown4 hg4 hb4; simp only [Nat.zero_add])
          | (refine step_app4 (by rfl) (.tmp 80) (.tmp 82) _ (by rfl) 30 _ 3 24 Tryz.underlying47 item_info rfl (by omega) wp.heap.size A4 m c4 (itsV r.f.q) (by rfl) (Own4.out) (some ⟨wp.heap.size + 1, 0, none⟩) 1 1 (itsV [it]) (by rfl) rfl (HS4.out) (itsV_one _) (by unfold maxLen; omega) (by omega) (Hb4.out).size ?_; intro A6 c6 w6 hown6 hg6; have hb6 : Below wp.heap.size wp w6 := (Hb4.out).trans ((Turned.of_grown (p := fun x => (Value.slice A4 m c4).ownBlock = some x) hg6 fun x e => e).below (fun x e => (Own4.out.lt x e).1) (Hb4.out).size); rw [← itsV_append] at hown6; have d6 : w6.cell? ⟨g, 9, none⟩ = some (.slice r.A m r.c) := HD.out w6 hb6; have z6 : w6.frozen? ⟨g, 9, none⟩ = false := HZ.out w6 hb6; have Own6 := Lib.hid hown6; have Hb6 := Lib.hid hb6; clear hown6 hg6 hb6)
          | (refine step_app4 (by rfl) (.tmp 80) (.tmp 82) _ (by rfl) 30 _ 3 24 Tryz.underlying47 item_info rfl (by omega) wp.heap.size A4 m c4 (itsV r.f.q) (by rfl) (Own4.out) (some ⟨wp.heap.size, 0, none⟩) 1 1 (itsV [it]) (by rfl) rfl (HS4.out) (itsV_one _) (by unfold maxLen; omega) (by omega) (Hb4.out).size ?_; intro A6 c6 w6 hown6 hg6; have hb6 : Below wp.heap.size wp w6 := (Hb4.out).trans ((Turned.of_grown (p := fun x => (Value.slice A4 m c4).ownBlock = some x) hg6 fun x e => e).below (fun x e => (Own4.out.lt x e).1) (Hb4.out).size); rw [← itsV_append] at hown6; have d6 : w6.cell? ⟨g, 9, none⟩ = some (.slice r.A m r.c) := HD.out w6 hb6; have z6 : w6.frozen? ⟨g, 9, none⟩ = false := HZ.out w6 hb6; have Own6 := Lib.hid hown6; have Hb6 := Lib.hid hb6; clear hown6 hg6 hb6)
          | (refine step_app4 (by rfl) (.tmp 80) (.tmp 82) _ (by rfl) 30 _ 3 24 Tryz.underlying47 item_info rfl (by omega) wp.heap.size A4 m c4 (itsV r.f.q) (by rfl) (own_belowM Own4.out (below_box w4 _)) (some ⟨w4.heap.size, 0, none⟩) 1 1 (itsV [it]) (by rfl) rfl (Seen.of_box (heap_alloc_new w4 _)) (itsV_one _) (by unfold maxLen; omega) (by omega) (Hb4.out.trans ((below_box w4 _).mono Hb4.out.size)).size ?_; intro A6 c6 w6 hown6 hg6; have hb6 : Below wp.heap.size wp w6 := (Hb4.out.trans ((below_box w4 _).mono Hb4.out.size)).trans ((Turned.of_grown (p := fun x => (Value.slice A4 m c4).ownBlock = some x) hg6 fun x e => e).below (fun x e => (Own4.out.lt x e).1) (Hb4.out.trans ((below_box w4 _).mono Hb4.out.size)).size); rw [← itsV_append] at hown6; have d6 : w6.cell? ⟨g, 9, none⟩ = some (.slice r.A m r.c) := HD.out w6 hb6; have z6 : w6.frozen? ⟨g, 9, none⟩ = false := HZ.out w6 hb6; have Own6 := Lib.hid hown6; have Hb6 := Lib.hid hb6; clear hown6 hg6 hb6))
        all_goals
          go_wp2_with fail
          go_meet
          refine ⟨A6, c6, rfl, ?_⟩
          exact box_queue (HX3.out w6 Hb6.out) (by rw [Hr.out.2, Hm.out]) (by rw [Hr.out.2]; exact Own6.out) Hb6.out
      case rest =>
        obtain ⟨A6, c6, rfl, hx6, hq6, hbk6, ht6⟩ := hcut
        obtain ⟨r4, hr4⟩ : ∃ x, ({ id := r3.id, f := { r3.f with q := r3.f.q ++ [it] }, A := A6, c := c6 } : RF) = x := ⟨_, rfl⟩
        have hgB : w.heap.size ≤ g := by rw [← Hg.out]; exact Hb1.out.size
        have hbW : Below w.heap.size w wc := Hbc.out.trans (ht6.below (fun j hj => by
          have := Hbc.out.size
          rcases hj with rfl | hj <;> omega) Hbc.out.size)
        rw [hr4] at hx6
        have hld := ldFlow_row hx6
        have KW6 := Lib.hid (KW.out wc hbW r4)
        have Hr4 := Lib.hid hr4; have Hq6 := Lib.hid hq6; have Hbk6 := Lib.hid hbk6; have HbW := Lib.hid hbW
        clear hx6 hq6 hbk6 ht6 hr4 hgB hbW f0 f1 f2 f3 f4 j0 j1
        go_wp2_with (go_at_call 19; refine KW6.out.mono ?_; rintro e w7 ⟨A7, c7, rfl, h7⟩; have H7 := Lib.hid h7; clear h7)
        go_ret2
        refine ⟨0, y.set i r4, A7, c7, by rw [List.length_set]; rfl, .inr (.inr ⟨rfl, i, r, r4, Hi.out, Hidr.out, by have := Hm.out; omega, rfl, by rw [← Hr4.out]; exact Hr.out.1.trans Hidr.out, ?_, ?_, ?_⟩), H7.out.1, H7.out.2.1, HbW.out.trans (H7.out.2.2.mono HbW.out.size)⟩
        · rw [← Hr4.out]
          rcases Hpu.out with ⟨h1, h2⟩ | ⟨h1, l, h2, h3⟩
          · exact .inl ⟨h1, by rw [h2]; rfl⟩
          · exact .inr ⟨h1, l, h2, by rw [h3]; rfl⟩
        · have hlen : r4.f.q.length = m + 1 := by rw [← Hr4.out]; show (r3.f.q ++ [it]).length = _; rw [List.length_append, Hr.out.2, Hm.out]; rfl
          have h1 : rfQ r4 = .slice A6 (m + 1) c6 := by unfold rfQ; rw [hlen, ← Hr4.out]
          rw [h1]
          have h2 : r4.f.q = r3.f.q ++ [it] := by rw [← Hr4.out]
          rw [h2]
          exact Hq6.out.below H7.out.2.2
        · intro x hx
          have hlen : r4.f.q.length = m + 1 := by rw [← Hr4.out]; show (r3.f.q ++ [it]).length = _; rw [List.length_append, Hr.out.2, Hm.out]; rfl
          have h1 : rfQ r4 = .slice A6 (m + 1) c6 := by unfold rfQ; rw [hlen, ← Hr4.out]
          rw [h1] at hx
          exact Nat.le_trans Hbc.out.size (Hbk6.out x hx)
theorem RPush_any (A : Option Addr) (n c : Nat) (y : List RF) (id now : Int) (it : Itm) (w : World) (hl : y.length = n) (hn : n ≤ 100000) (hnc : n ≤ c ∧ c ≤ maxLen) (hs : RowAt w A 49 (rfsV y)) (hone : ∀ (i j : Nat) r s, y[i]? = some r → y[j]? = some s → r.id = s.id → i = j) (hq : ∀ r ∈ y, QAt w 0 (rfQ r) r.f.q) (hnow : inI now) :
    Calls Tryz.prog 8 #[.slice A n c, .int .i64 id, .agg #[.int .i64 it.na, .int .i64 it.de, .int .i64 it.rh], .int .i64 now] w (RPushRet y id it now w) := by
  by_cases h : ∃ r ∈ y, r.id = id
  · obtain ⟨r, hr, hid⟩ := h
    obtain ⟨i, hi⟩ := List.mem_iff_getElem?.1 hr
    exact RPush_has A n c i y r id now it w hl hn hnc hs hi hid (fun j s hj hs => hone j i s r hj hi (hs.trans hid.symm)) (hq r hr) hnow
  · exact RPush_none A n c y id now it w hl hn hnc hs fun r hr hid => h ⟨r, hr, hid⟩
theorem RSet_any (A : Option Addr) (n c : Nat) (y : List RF) (id ver : Int) (p : Pol) (w : World) (hl : y.length = n) (hn : n ≤ 100000) (hnc : n ≤ c ∧ c ≤ maxLen) (hs : RowAt w A 49 (rfsV y)) (hone : ∀ (i j : Nat) r s, y[i]? = some r → y[j]? = some s → r.id = s.id → i = j) (hp : InP p) :
    Calls Tryz.prog 6 #[.slice A n c, .int .i64 id, .int .i64 ver, .agg #[.int .i64 p.re, .int .i64 p.we, .int .i64 p.li, .int .i64 p.bu]] w (RSetRet y id ver p w) := by
  by_cases hbad : id < 0 ∨ ver < 0 ∨ rightP p = false
  · exact RSet_bad A n c y id ver p w hl hnc hs hp hbad
  · by_cases h : ∃ r ∈ y, r.id = id
    · obtain ⟨r, hr, hid⟩ := h
      obtain ⟨i, hi⟩ := List.mem_iff_getElem?.1 hr
      exact RSet_has A n c i y r id ver p w hl hn hnc hs hp hbad hi hid (fun j s hj hs => hone j i s r hj hi (hs.trans hid.symm))
    · exact RSet_new A n c y id ver p w hl hn hnc hs hp hbad fun r hr hid => h ⟨r, hr, hid⟩
end Go.Proofs.YtbfjakchgmdldaaGreat
