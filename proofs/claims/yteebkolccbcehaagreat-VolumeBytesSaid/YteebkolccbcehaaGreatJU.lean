/-
  Joined: RfFil0, RfFil1. Conditions: each theorem's own.
-/
import Derived.Test.YteebkolccbcehaaGreatJT
import Derived.Test.YteebkolccbcehaaGreatRfCho
import Derived.Test.YteebkolccbcehaaGreatJR

section
set_option linter.all false
namespace Go.Proofs.YteebkolccbcehaaGreat
open Go.ChangeShapes Go.WideShapes Go.ChangeAt Go.RowKit
def fnK (f : Rf) (v : Vk) (copies n : Nat) : List Chk := yo (zm f.pk) v.id copies (f.nx - 1) (z8 f.dat.cs) n
theorem YH (f : Rf) (v : Vk) (copies n : Nat) : (fnK f v copies n).length = n := Yt _ _ _ _ _ n
theorem XQ (pk : Nat -> Int) : (zm pk).Nodup := List.Nodup.sublist List.filter_sublist List.nodup_range
theorem XA (pk : Nat -> Int) (vo : Int) (copies : Nat) (md : Int) (hv : List Int) : ∀ n, ∀ k ∈ yo (zm pk) vo copies md hv n, (k.ms ++ k.js).Nodup
 | 0, k, hk => by cases hk
 | n + 1, k, hk => by
  rw [yo] at hk
  rcases List.mem_append.1 hk with hk | hk
  ·exact XA pk vo copies md hv n k hk
  ·rw [List.mem_singleton] at hk
   subst hk
   show (_ ++ ([] : List Int)).Nodup
   rw [List.append_nil]
   exact QA (Qa _ (XQ pk) _)
theorem fewF_min {f : Nat -> Nat} (ids : List Nat) (n : Nat) : fewF f ids (min n ids.length) = fewF f ids n := by
 unfold fewF
 by_cases h : n <= ids.length
 ·rw [Nat.min_eq_left h]
 ·rw [Nat.min_eq_right (by omega), List.take_of_length_le (by rw [List.length_mergeSort]; exact Nat.le_refl _), List.take_of_length_le (by rw [List.length_mergeSort]; omega)]
def midR (f : Rf) (v : Vk) (copies n : Nat) : RS := { f.dat with cs := f.dat.cs ++ fnK f v copies n, nx := f.nx + n }
def newC (f : Rf) (v : Vk) (copies n : Nat) : Chk := ⟨f.nx + n, v.id, 1, toI (fewF (hN (midR f v copies n)) (zm f.pk) (min copies (zm f.pk).length)), []⟩
theorem fnK_more (f : Rf) (v : Vk) (copies n : Nat) (hnd : ∀ k ∈ f.dat.cs, (k.ms ++ k.js).Nodup) : fnK f v copies (n + 1) = fnK f v copies n ++ [newC f v copies n] := by
 unfold fnK newC
 rw [yo, fewF_min, show f.nx - 1 + (n : Int) + 1 = f.nx + n by omega]
 congr 5
 funext i
 rw [<- xo, count_flat]
 ·rfl
 ·intro k hk
  rcases List.mem_append.1 hk with hk | hk
  ·exact hnd k hk
  ·exact XA _ _ _ _ _ _ k hk
theorem idsK_fn (f : Rf) (v : Vk) (copies n : Nat) (hnd : ∀ k ∈ f.dat.cs, (k.ms ++ k.js).Nodup) : idsK (fnK f v copies (n + 1)) = idsK (fnK f v copies n) ++ [f.nx + (n : Int)] := by
 rw [fnK_more f v copies n hnd]
 simp [idsK, newC]
theorem idsK_len (l : List Chk) : (idsK l).length = l.length := by simp [idsK]
def pF (gs gv : Nat) (L : Sl) (b : Nat) : Prop := b = gs \/ b = gv \/ (Value.slice L.A L.n L.c).ownBlock = some b
structure FilR (w wr : World) (gs gr gv : Nat) (f : Rf) (v : Vk) (copies n : Nat) (L Kn : Sl) (X : List Ck) : Prop where
 bs : wr.heap[gs]? = some (.cells #[.slice f.p.A f.p.n f.p.c, .slice f.v.A f.v.n f.v.c, .slice Kn.A Kn.n Kn.c, .int .i64 (f.nx + n)] 32 (0, 0))
 br : wr.heap[gr]? = some (.cells #[.slice none 0 0, .slice none 0 0, .slice none 0 0, .int .i64 0] 32 (0, 0))
 bv : wr.heap[gv]? = some (.cells #[.int .i64 v.id, .int .i64 v.bl, .int .i64 v.p.re, .int .i64 v.p.we, .int .i64 v.p.li, .int .i64 v.p.bu, .int .i64 v.ver, .slice L.A L.n L.c] 49 (0, 0))
 own : wr.ownsRow w.heap.size 3 1 (.slice L.A L.n L.c) L.n (zo (v.ids ++ idsK (fnK f v copies n)))
 dat : X.map Ck.dat = f.dat.cs ++ fnK f v copies n
 stab : ∀ W, Turned (pF gs gv L) wr W -> KsT W Kn X
 bel : Below w.heap.size w wr
theorem FilR.ln {w wr : World} {gs gr gv : Nat} {f : Rf} {v : Vk} {copies n : Nat} {L Kn : Sl} {X : List Ck} (h : FilR w wr gs gr gv f v copies n L Kn X) : L.n = v.ids.length + n := by
 have := h.own.1
 rw [zz, List.length_append, idsK_len, YH] at this
 omega
theorem FilR.step {w wr V3 V6 V7 V8 V9 V10 V11 : World} {gs gr gv : Nat} {f : Rf} {v : Vk} {copies n m k6 c5 c6 c9 : Nat} {L Kn : Sl} {X : List Ck} {A5 A6 A9 : Option Addr} {us : List Int}
  (h : FilR w wr gs gr gv f v copies n L Kn X) (hnd : ∀ k ∈ f.dat.cs, (k.ms ++ k.js).Nodup) (hgs : w.heap.size <= gs) (hgv : w.heap.size <= gv) (hsr : gs ≠ gr) (hus : (newC f v copies n).ms = us)
  (b3 : Below wr.heap.size wr V3) (b6 : Below wr.heap.size wr V6) (hV3 : V3.heap.size <= V6.heap.size) (o5 : V6.ownsRow V3.heap.size 3 1 (.slice A5 m c5) m (zo us))
  (o6 : V6.ownsRow wr.heap.size 82 5 (.slice A6 k6 c6) k6 (cksV (X ++ [⟨f.nx + n, v.id, 1, ⟨A5, m, c5⟩, Sl.nil, us, []⟩])))
  (e7 : V6.setCell ⟨gs, 2, none⟩ (.slice A6 k6 c6) = V7) (e8 : V7.alloc (.cells #[.int .i64 (f.nx + n)] 3) = V8)
  (o9 : V9.ownsRow w.heap.size 3 1 (.slice A9 (L.n + 1) c9) (L.n + 1) (zo (v.ids ++ idsK (fnK f v copies n)) ++ [.int .i64 (f.nx + n)])) (g9 : V8.grownBy V9 (Value.slice L.A L.n L.c).ownBlock)
  (k9 : ∀ k, (Value.slice A9 (L.n + 1) c9).ownBlock = some k -> (Value.slice L.A L.n L.c).ownBlock = some k \/ k = V8.heap.size)
  (e10 : V9.setCell ⟨gv, 7, none⟩ (.slice A9 (L.n + 1) c9) = V10) (e11 : V10.setCell ⟨gs, 3, none⟩ (.int .i64 (f.nx + n + 1)) = V11) :
  FilR w V11 gs gr gv f v copies (n + 1) ⟨A9, L.n + 1, c9⟩ ⟨A6, k6, c6⟩ (X ++ [⟨f.nx + n, v.id, 1, ⟨A5, m, c5⟩, Sl.nil, us, []⟩]) := by
 have lgs := (Array.getElem?_eq_some_iff.1 h.bs).1
 have lgr := (Array.getElem?_eq_some_iff.1 h.br).1
 have lgv := (Array.getElem?_eq_some_iff.1 h.bv).1
 have nL : ∀ {b : Nat} {cs : Array Value} {T : TypeId} {fr : Nat × Nat}, wr.heap[b]? = some (.cells cs T fr) -> T ≠ 3 -> ¬ (Value.slice L.A L.n L.c).ownBlock = some b := fun {b cs T fr} hb hT e => by
  obtain ⟨cs', h1⟩ := zD h.own e
  rw [hb] at h1
  injection h1 with h1
  injection h1 with _ h1
  exact hT h1
 have gsv : gs ≠ gv := fun e => by
  have h1 := h.bs
  rw [e, h.bv] at h1
  injection h1 with h1
  injection h1 with _ h1
  exact absurd h1 (by decide)
 have grv : gr ≠ gv := fun e => by
  have h1 := h.br
  rw [e, h.bv] at h1
  injection h1 with h1
  injection h1 with _ h1
  exact absurd h1 (by decide)
 have s6 := b6.size
 have t67 : Turned (pF gs gv L) V6 V7 := by rw [<- e7]; exact (Turned.refl _ _).setCell (b := ⟨gs, 2, none⟩) (fun _ => .inl rfl) _
 have t78 : Turned (pF gs gv L) V7 V8 := by rw [<- e8]; exact (Turned.refl _ _).alloc _
 have t89 : Turned (pF gs gv L) V8 V9 := Turned.of_grown g9 fun k e => .inr (.inr e)
 have t910 : Turned (pF gs gv L) V9 V10 := by rw [<- e10]; exact (Turned.refl _ _).setCell (b := ⟨gv, 7, none⟩) (fun _ => .inr (.inl rfl)) _
 have t1011 : Turned (pF gs gv L) V10 V11 := by rw [<- e11]; exact (Turned.refl _ _).setCell (b := ⟨gs, 3, none⟩) (fun _ => .inl rfl) _
 have t69 : Turned (pF gs gv L) V6 V9 := (t67.trans t78 (fun _ e => e) (fun _ _ e => e)).trans t89 (fun _ e => e) (fun _ _ e => e)
 have t611 : Turned (pF gs gv L) V6 V11 := (t69.trans t910 (fun _ e => e) (fun _ _ e => e)).trans t1011 (fun _ e => e) (fun _ _ e => e)
 have t11 : Turned (pF gs gv L) wr V11 := (Turned.of_below (p := pF gs gv L) b6).trans t611 (fun _ e => e) (fun _ _ e => e)
 have s8 : V6.heap.size <= V8.heap.size := Nat.le_trans t67.size t78.size
 have s811 : V8.heap.size <= V11.heap.size := Nat.le_trans t89.size (Nat.le_trans t910.size t1011.size)
 have bs6 := za h.bs b6
 have bs7 := zG bs6 2 (.slice A6 k6 c6)
 rw [e7] at bs7
 have t79 : Turned (fun b => (Value.slice L.A L.n L.c).ownBlock = some b) V7 V9 := (Turned.of_below (p := fun b => (Value.slice L.A L.n L.c).ownBlock = some b) (by rw [<- e8]; exact zg _ _)).trans (Turned.of_grown g9 fun k e => e) (fun _ e => e) (fun _ _ e => e)
 have bs9 := t79.heap bs7 (nL h.bs (by decide))
 have t910v : Turned (fun b => b = gv) V9 V10 := by rw [<- e10]; exact (Turned.refl (fun b => b = gv) V9).setCell (b := ⟨gv, 7, none⟩) (fun _ => rfl) _
 have t1011s : Turned (fun b => b = gs) V10 V11 := by rw [<- e11]; exact (Turned.refl (fun b => b = gs) V10).setCell (b := ⟨gs, 3, none⟩) (fun _ => rfl) _
 have t67s : Turned (fun b => b = gs) V6 V7 := by rw [<- e7]; exact (Turned.refl (fun b => b = gs) V6).setCell (b := ⟨gs, 2, none⟩) (fun _ => rfl) _
 have bs10 := t910v.heap bs9 gsv
 have bs11 := zG bs10 3 (.int .i64 (f.nx + n + 1))
 rw [e11] at bs11
 have br7 := t67s.heap (za h.br b6) (fun e => hsr e.symm)
 have br9 := t79.heap br7 (nL h.br (by decide))
 have br11 := t1011s.heap (t910v.heap br9 grv) (fun e => hsr e.symm)
 have bv7 := t67s.heap (za h.bv b6) (fun e => gsv e.symm)
 have bv9 := t79.heap bv7 (nL h.bv (by decide))
 have bv10 := zG bv9 7 (.slice A9 (L.n + 1) c9)
 rw [e10] at bv10
 have bv11 := t1011s.heap bv10 (fun e => gsv e.symm)
 have o11 := ze t1011s (ze t910v o9 (fun k e hk => by
  subst hk
  obtain ⟨cs', h1⟩ := zD o9 e
  rw [bv9] at h1
  injection h1 with h1
  injection h1 with _ h1
  exact absurd h1 (by decide))) (fun k e hk => by
  subst hk
  obtain ⟨cs', h1⟩ := zD o9 e
  rw [bs9] at h1
  injection h1 with h1
  injection h1 with _ h1
  exact absurd h1 (by decide))
 have eids : zo (v.ids ++ idsK (fnK f v copies (n + 1))) = zo (v.ids ++ idsK (fnK f v copies n)) ++ [.int .i64 (f.nx + n)] := by
  rw [idsK_fn f v copies n hnd, <- List.append_assoc, zW]
  rfl
 refine ⟨?_, br11, bv11, by rw [eids]; exact o11, ?_, fun W hW => ?_, ?_⟩
 ·rw [show f.nx + ((n + 1 : Nat) : Int) = f.nx + n + 1 by omega]
  exact bs11
 ·rw [List.map_append, h.dat, fnK_more f v copies n hnd, List.append_assoc]
  congr 2
  show [(⟨f.nx + n, v.id, 1, us, []⟩ : Chk)] = [newC f v copies n]
  rw [<- hus]
  rfl
 ·have lt9 : ∀ k, (Value.slice A9 (L.n + 1) c9).ownBlock = some k -> (Value.slice L.A L.n L.c).ownBlock = some k \/ V6.heap.size <= k := fun k e => by
   rcases k9 k e with e | e
   ·exact .inl e
   ·exact .inr (by omega)
  have noT : ∀ {T : TypeId}, T ≠ 32 -> T ≠ 49 -> T ≠ 3 -> NoT V11 T (pF gs gv ⟨A9, L.n + 1, c9⟩) := fun {T} a1 a2 a3 b cs fr hb e => by
   rcases hb with rfl | rfl | hb
   ·rw [bs11] at e; injection e with e; injection e with _ e; exact a1 e.symm
   ·rw [bv11] at e; injection e with e; injection e with _ e; exact a2 e.symm
   ·obtain ⟨cs', h1⟩ := zD o11 hb
    rw [h1] at e; injection e with e; injection e with _ e; exact a3 e.symm
  have o6W : W.ownsRow wr.heap.size 82 5 (.slice A6 k6 c6) k6 (cksV (X ++ [⟨f.nx + n, v.id, 1, ⟨A5, m, c5⟩, Sl.nil, us, []⟩])) := by
   have x11 := ze t611 o6 (fun k e hk => by
    obtain ⟨cs', h1⟩ := zD o6 e
    rcases hk with rfl | rfl | hk
    ·rw [bs6] at h1; injection h1 with h1; injection h1 with _ h1; exact absurd h1 (by decide)
    ·rw [za h.bv b6] at h1; injection h1 with h1; injection h1 with _ h1; exact absurd h1 (by decide)
    ·obtain ⟨cs2, h2⟩ := zD (zh h.own b6) hk
     rw [h2] at h1; injection h1 with h1; injection h1 with _ h1; exact absurd h1 (by decide))
   refine ze hW x11 (fun k e hk => ?_)
   obtain ⟨cs', h1⟩ := zD x11 e
   exact noT (by decide) (by decide) (by decide) k _ _ hk h1
  have hWr : Turned (pF gs gv L) wr W := t11.trans hW (fun _ e => e) (fun b hb e => by
   rcases e with e | e | e
   ·exact .inl e
   ·exact .inr (.inl e)
   ·rcases lt9 b e with e | e
    ·exact .inr (.inr e)
    ·omega)
  have hK := h.stab W hWr
  refine KsT.own o6W fun x hx => ?_
  rcases List.mem_append.1 hx with hx | hx
  ·exact hK.ok x hx
  ·rw [List.mem_singleton] at hx
   subst hx
   refine ⟨?_, zQ.nil W⟩
   have y11 := ze t611 o5 (fun k e hk => by
    have l5 := (o5.lt k e).1
    have s3 := b3.size
    rcases hk with rfl | rfl | hk
    ·omega
    ·omega
    ·have := (h.own.lt k hk).2; omega)
   have yW := ze hW y11 (fun k e hk => by
    have l5 := o5.lt k e
    have s3 := b3.size
    rcases hk with rfl | rfl | hk
    ·omega
    ·omega
    ·rcases lt9 k hk with hk | hk
     ·have := (h.own.lt k hk).2; omega
     ·omega)
   have e := zQ.own yW
   exact e
 ·refine (h.bel.trans (b6.mono h.bel.size)).trans (t611.below (B := w.heap.size) (fun k e => ?_) (by have := h.bel.size; omega))
  rcases e with rfl | rfl | e
  ·exact hgs
  ·exact hgv
  ·exact (h.own.lt k e).1
end Go.Proofs.YteebkolccbcehaaGreat
end

section
set_option linter.all false
namespace Go.Proofs.YteebkolccbcehaaGreat
open Go.ChangeShapes Go.WideShapes Go.ChangeAt Go.RowKit
def ldVk (p : Value) : Sem Value := Instr.loadAt 49 p
theorem ldVk_eq (p : Value) : Instr.loadAt 49 p = ldVk p := rfl
theorem ZR {w : World} {g o : Nat} {v : Vk} (h : VkAt w g o v) : (ldVk (.pointer (some ⟨g, o, none⟩))).run Tryz.prog w = .ok (.agg #[.int .i64 v.id, .int .i64 v.bl, .int .i64 v.p.re, .int .i64 v.p.we, .int .i64 v.p.li, .int .i64 v.p.bu, .int .i64 v.ver, .slice v.c.A v.c.n v.c.c]) w := by
 have hr : w.rangeAt g o (vkC v) := fun j x hx => by
  match j, hx with
  | 0, hx => simp [vkC] at hx; subst hx; exact h.c0
  | 1, hx => simp [vkC] at hx; subst hx; exact h.c1
  | 2, hx => simp [vkC] at hx; subst hx; exact h.c2
  | 3, hx => simp [vkC] at hx; subst hx; exact h.c3
  | 4, hx => simp [vkC] at hx; subst hx; exact h.c4
  | 5, hx => simp [vkC] at hx; subst hx; exact h.c5
  | 6, hx => simp [vkC] at hx; subst hx; exact h.c6
  | 7, hx => simp [vkC] at hx; subst hx; exact h.c7
 exact run_loadAt_mid w g o 49 (vkC v) _ hr Tryz.underlying49 rfl vk_size
theorem VkAt.of_row {w : World} {g : Nat} {v : Vk} {t : TypeId} (h : w.heap[g]? = some (.cells #[.int .i64 v.id, .int .i64 v.bl, .int .i64 v.p.re, .int .i64 v.p.we, .int .i64 v.p.li, .int .i64 v.p.bu, .int .i64 v.ver, .slice v.c.A v.c.n v.c.c] t (0, 0))) : VkAt w g 0 v :=
 ⟨zc h 0, zc h 1, zc h 2, zc h 3, zc h 4, zc h 5, zc h 6, zc h 7⟩
def stVk (p v : Value) : Sem Unit := Instr.storeAt 49 p v
theorem stVk_eq (p v : Value) : Instr.storeAt 49 p v = stVk p v := rfl
theorem vk_new (w : World) (v : Vk) : ∃ wz w3, w.alloc (.cells #[.int .i64 0, .int .i64 0, .int .i64 0, .int .i64 0, .int .i64 0, .int .i64 0, .int .i64 0, .slice none 0 0] 49) = wz /\
  (stVk (.pointer (some ⟨w.heap.size, 0, none⟩)) (.agg #[.int .i64 v.id, .int .i64 v.bl, .int .i64 v.p.re, .int .i64 v.p.we, .int .i64 v.p.li, .int .i64 v.p.bu, .int .i64 v.ver, .slice v.c.A v.c.n v.c.c])).run Tryz.prog wz = .ok () w3 /\ Below w.heap.size w w3 /\
  w3.heap[w.heap.size]? = some (.cells #[.int .i64 v.id, .int .i64 v.bl, .int .i64 v.p.re, .int .i64 v.p.we, .int .i64 v.p.li, .int .i64 v.p.bu, .int .i64 v.ver, .slice v.c.A v.c.n v.c.c] 49 (0, 0)) := by
 obtain ⟨wz, hw⟩ : ∃ wz, w.alloc (.cells #[.int .i64 0, .int .i64 0, .int .i64 0, .int .i64 0, .int .i64 0, .int .i64 0, .int .i64 0, .slice none 0 0] 49) = wz := ⟨_, rfl⟩
 have hb : Below w.heap.size w wz := by rw [<- hw]; exact zg _ _
 have hr : wz.heap[w.heap.size]? = some (.cells #[.int .i64 0, .int .i64 0, .int .i64 0, .int .i64 0, .int .i64 0, .int .i64 0, .int .i64 0, .slice none 0 0] 49 (0, 0)) := by rw [<- hw]; exact heap_alloc_new _ _
 obtain ⟨w3, h1, h2, h3⟩ := ZH (T := 49) (new := #[.int .i64 v.id, .int .i64 v.bl, .int .i64 v.p.re, .int .i64 v.p.we, .int .i64 v.p.li, .int .i64 v.p.bu, .int .i64 v.ver, .slice v.c.A v.c.n v.c.c]) hr rfl vk_size (by simp [Value.oneCell'])
 exact ⟨wz, w3, hw, h1, hb.trans (h3.below (fun k e => by omega) hb.size), h2⟩
theorem vs_put {w : World} {B g n c q : Nat} {X : List Vk} (h : w.ownsRow B 49 8 (.slice (some ⟨g, 0, none⟩) n c) n (vksV X)) (hq : q < X.length) (v : Vk) :
  ∃ w', (stVk (.pointer (some ⟨g, q * 8, none⟩)) (.agg #[.int .i64 v.id, .int .i64 v.bl, .int .i64 v.p.re, .int .i64 v.p.we, .int .i64 v.p.li, .int .i64 v.p.bu, .int .i64 v.ver, .slice v.c.A v.c.n v.c.c])).run Tryz.prog w = .ok () w' /\
   w'.ownsRow B 49 8 (.slice (some ⟨g, 0, none⟩) n c) n (vksV (X.set q v)) /\ Turned (fun b => b = g) w w' := by
 obtain ⟨h1, h2, h3⟩ := QL (o := q * 8) (new := vkC v) h (by rw [ya]; simp [vkC]; omega)
 refine ⟨_, run_storeAt_mid w g (q * 8) 49 #[.int .i64 v.id, .int .i64 v.bl, .int .i64 v.p.re, .int .i64 v.p.we, .int .i64 v.p.li, .int .i64 v.p.bu, .int .i64 v.ver, .slice v.c.A v.c.n v.c.c] h3 vk_size (by simp [Value.oneCell']), ?_, h2⟩
 rw [Ya hq]
 exact h1
def Xa (f : Rf) (r : RS) (w : World) (en : Ending) (w' : World) : Prop := ∃ f' : Rf, en = .returned f'.val /\ f'.dat = r /\ RfOk w' f' /\ Turned (RowB f) w w'
theorem FilR.start {w W : World} {gs gr gv c : Nat} {A : Option Addr} {f : Rf} {v : Vk} (copies : Nat) (h : RfOk w f) (hb : Below w.heap.size w W) (hgs : w.heap.size <= gs) (hgv : w.heap.size <= gv)
  (bs : W.heap[gs]? = some (.cells #[.slice f.p.A f.p.n f.p.c, .slice f.v.A f.v.n f.v.c, .slice f.k.A f.k.n f.k.c, .int .i64 f.nx] 32 (0, 0)))
  (br : W.heap[gr]? = some (.cells #[.slice none 0 0, .slice none 0 0, .slice none 0 0, .int .i64 0] 32 (0, 0)))
  (bv : W.heap[gv]? = some (.cells #[.int .i64 v.id, .int .i64 v.bl, .int .i64 v.p.re, .int .i64 v.p.we, .int .i64 v.p.li, .int .i64 v.p.bu, .int .i64 v.ver, .slice A v.ids.length c] 49 (0, 0)))
  (own : W.ownsRow w.heap.size 3 1 (.slice A v.ids.length c) v.ids.length (zo v.ids)) : FilR w W gs gr gv f v copies 0 ⟨A, v.ids.length, c⟩ f.k f.K := by
 have e0 : fnK f v copies 0 = [] := rfl
 refine ⟨by rw [show f.nx + ((0 : Nat) : Int) = f.nx by omega]; exact bs, br, bv, ?_, ?_, fun V hV => ?_, hb⟩
 ·rw [e0]
  simpa [idsK] using own
 ·rw [e0, List.append_nil]; rfl
 ·refine h.k.below (hb.trans (hV.below (fun k e => ?_) hb.size))
  rcases e with rfl | rfl | e
  ·exact hgs
  ·exact hgv
  ·exact (own.lt k e).1
theorem FilR.done {w wr V12 V13 : World} {B gs gr gv gw q m copies : Nat} {f : Rf} {v : Vk} {L Kn : Sl} {X : List Ck} (h : FilR w wr gs gr gv f v copies m L Kn X) (hf : RfOk w f) (hq : f.X[q]? = some v) (hA : f.v.A = some ⟨gw, 0, none⟩)
  (hv : w.ownsRow B 49 8 (.slice f.v.A f.v.n f.v.c) f.v.n (vksV f.X)) (hgr : w.heap.size <= gr) (hkl : f.K.length + m <= 10000)
  (own : V12.ownsRow B 49 8 (.slice (some ⟨gw, 0, none⟩) f.v.n f.v.c) f.v.n (vksV (f.X.set q { v with c := L, ids := v.ids ++ idsK (fnK f v copies m) }))) (t12 : Turned (fun b => b = gw) wr V12)
  (t13 : Turned (fun b => b = gr) V12 V13) :
  Xa f (Zu f.dat q v.dat copies m) w (.returned (.agg #[.slice f.p.A f.p.n f.p.c, .slice f.v.A f.v.n f.v.c, .slice Kn.A Kn.n Kn.c, .int .i64 (f.nx + m)])) V13 := by
 obtain ⟨csw, hw⟩ := zD hv (k := gw) (by rw [hA]; rfl)
 have lw := (Array.getElem?_eq_some_iff.1 hw).1
 have hwr := za hw h.bel
 have n12 : ∀ {T : TypeId}, T ≠ 49 -> NoT wr T (fun b => b = gw) := fun {T} hT b cs fr hb e => by
  subst hb
  rw [hwr] at e; injection e with e; injection e with _ e; exact hT e.symm
 have hr12 := t12.heap h.br (fun e => by omega)
 have n13 : ∀ {T : TypeId}, T ≠ 32 -> NoT V12 T (fun b => b = gr) := fun {T} hT b cs fr hb e => by
  subst hb
  rw [hr12] at e; injection e with e; injection e with _ e; exact hT e.symm
 have k0 := h.stab wr (Turned.refl _ _)
 have own13 := ze t13 own (fun k e hk => by have e1 : gw = k := Option.some.inj e; omega)
 have iL : zQ V13 L (v.ids ++ idsK (fnK f v copies m)) := ((zQ.own h.own).turned t12 (n12 (by decide))).turned t13 (n13 (by decide))
 have hlen := own13.1
 rw [ya] at hlen
 refine ⟨{ f with k := Kn, K := X, nx := f.nx + m, X := f.X.set q { v with c := L, ids := v.ids ++ idsK (fnK f v copies m) } }, rfl, ?_, ⟨?_, ⟨?_, (yw hv).1, (yw hv).2, ?_, ?_, ?_⟩, ?_, ?_, ?_, hf.pin⟩, ?_⟩
 ·unfold Zu Rf.dat
  simp only [List.map_set]
  have := h.dat
  unfold fnK Rf.dat at this
  rw [this]
  rfl
 ·exact ((hf.p.below h.bel).turned t12 (n12 (by decide))).turned t13 (n13 (by decide))
 ·show (f.X.set q _).length = f.v.n
  omega
 ·show yP V13 _ f.v.A _
  rw [hA]
  exact yP.own own13
 ·intro x hx
  rcases List.mem_or_eq_of_mem_set hx with hx | rfl
  ·exact (((hf.v.ok x hx).below h.bel).turned t12 (n12 (by decide))).turned t13 (n13 (by decide))
  ·exact iL
 ·intro x hx
  rcases List.mem_or_eq_of_mem_set hx with hx | rfl
  ·exact hf.v.inp x hx
  ·exact hf.v.inp v (List.mem_of_getElem? hq)
 ·exact (k0.turned t12 (n12 (by decide)) (n12 (by decide))).turned t13 (n13 (by decide)) (n13 (by decide))
 ·show (f.X.set q _).length <= 64
  rw [List.length_set]; exact hf.vl
 ·show X.length <= 10000
  have := congrArg List.length h.dat
  rw [List.length_map, List.length_append, YH] at this
  have e2 : f.dat.cs.length = f.K.length := List.length_map ..
  omega
 ·exact ((Turned.of_below (p := RowB f) h.bel).trans t12 (fun _ e => e) (fun b _ e => .inr (.inl (by rw [hA, e]; rfl)))).trans t13 (fun _ e => e) (fun b hl e => absurd e (by omega))
end Go.Proofs.YteebkolccbcehaaGreat
end
