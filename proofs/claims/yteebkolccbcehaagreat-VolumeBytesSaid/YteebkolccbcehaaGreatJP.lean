/-
  Joined: VolHas, RfMem, App3O. Conditions: each theorem's own.
-/
import Derived.Test.YteebkolccbcehaaGreatJL
import Derived.Test.YteebkolccbcehaaGreatJO
import Derived.Test.YteebkolccbcehaaGreatJE
import Derived.Test.YteebkolccbcehaaGreatVolFil

section
set_option linter.all false
namespace Go.Proofs.YteebkolccbcehaaGreat
open Go.ChangeShapes Go.WideShapes Go.ChangeAt Go.RowKit
theorem xX {α : Type} {l : List α} {k : Nat} {x : α} (h : l[k]? = some x) : l.take (k + 1) = l.take k ++ [x] := by
 obtain ⟨h1, h2⟩ := List.getElem?_eq_some_iff.1 h
 rw [List.take_succ_eq_append_getElem h1, h2]
theorem bool_ret' {a b : Bool} (h : a = b) : Ending.returned (.bool a) = Ending.returned (.bool b) := by rw [h]
theorem not_take {us : List Int} {k : Nat} {x v : Int} (hx : us[k]? = some x) (h : ¬ v ∈ us.take k) (hne : x ≠ v) : ¬ v ∈ us.take (k + 1) := by
 rw [xX hx]
 simp only [List.mem_append, List.mem_singleton, not_or]
 exact ⟨h, fun e => hne e.symm⟩
set_option maxRecDepth 100000 in
theorem Has_any (A : Option Addr) (n c : Nat) (us : List Int) (v : Int) (w : World) (hn : us.length = n) (hm : n <= maxLen) (hs : Seen w A (zo us)) :
  Calls Tryz.prog 90 #[.slice A n c, .int .i64 v] w fun e w' => e = .returned (.bool (decide (v ∈ us))) /\ w' = w := by
 unfold maxLen at hm
 have Hs := ihq hs; have Hn := ihq hn
 clear hs hn
 go_enter Tryz.func90, Tryz.ntmps90
 go_wp2
 go_loopw [5] (fun i wr => ∃ k : Nat, k <= n /\ i = .int .i64 k /\ w = wr /\ ¬ v ∈ us.take k) (fun i _ => n - (intOf i).toNat)
 case atStart => exact ⟨0, by omega, rfl, rfl, by simp⟩
 case round =>
  obtain ⟨k, hk, rfl, rfl, hg⟩ := hrel
  have Hg := ihq hg; clear hg
  by_cases hlt : k < n
  ·obtain ⟨g, o, x, rfl, hx, hc⟩ := Hs.out.num (j := k) (by have := Hn.out; omega)
   have Hx := ihq hx; clear hx
   have b0 : (0 : Int) <= (k : Int) := by omega
   have b1 : (k : Int) < (n : Int) := by omega
   by_cases he : x = v
   ·subst he
    go_wp2
    go_ret
    exact ⟨bool_ret' (decide_eq_true (List.mem_of_getElem? Hx.out)).symm, rfl⟩
   ·have hq : (x == v) = false := by simpa using he
    have He := ihq he; clear he
    go_wp2
    go_roundw
    case rel => exact ⟨k + 1, by omega, by go_num, by first | trivial | rfl, not_take Hx.out Hg.out He.out⟩
    case measure => simp [intOf]; omega
  ·obtain rfl : k = n := by omega
   go_wp2
   go_ret
   exact ⟨bool_ret' (decide_eq_false fun h => Hg.out (by rw [List.take_of_length_le (by have := Hn.out; omega)]; exact h)).symm, rfl⟩
end Go.Proofs.YteebkolccbcehaaGreat
end

section
set_option linter.all false
namespace Go.Proofs.YteebkolccbcehaaGreat
open Go.ChangeShapes Go.WideShapes Go.ChangeAt Go.RowKit
structure Vk where
 id : Int
 bl : Int
 p : Pol
 ver : Int
 c : Sl
 ids : List Int
def Vk.dat (v : Vk) : RV := ⟨v.id, v.bl, v.p, v.ver, v.ids⟩
def vkC (v : Vk) : List Value := [.int .i64 v.id, .int .i64 v.bl, .int .i64 v.p.re, .int .i64 v.p.we, .int .i64 v.p.li, .int .i64 v.p.bu, .int .i64 v.ver, .slice v.c.A v.c.n v.c.c]
def vksV (X : List Vk) : List Value := X.flatMap vkC
theorem xl (X Y : List Vk) : vksV (X ++ Y) = vksV X ++ vksV Y := by simp [vksV]
theorem Xe (v : Vk) : vksV [v] = vkC v := by simp [vksV]
theorem ya (X : List Vk) : (vksV X).length = X.length * 8 := by
 induction X with
 | nil => rfl
 | cons p r ih =>
  have : (vksV (p :: r)).length = 8 + (vksV r).length := by simp [vksV, vkC]; omega
  rw [this, ih, List.length_cons]; omega
theorem XN : ∀ {X : List Vk} {i : Nat} {v : Vk}, X[i]? = some v -> ∀ (j : Nat) (x : Value), (vkC v)[j]? = some x -> (vksV X)[i * 8 + j]? = some x
 | [], _, _, h => by simp at h
 | q :: r, 0, v, h => by
  simp at h
  subst h
  intro j x hj
  have e : vksV (q :: r) = vkC q ++ vksV r := by simp [vksV]
  rw [e, Nat.zero_mul, Nat.zero_add, List.getElem?_append_left (List.getElem?_eq_some_iff.1 hj).1]
  exact hj
 | q :: r, i + 1, v, h => by
  intro j x hj
  have := XN (X := r) (i := i) (v := v) (by simpa using h) j x hj
  have e : vksV (q :: r) = vkC q ++ vksV r := by simp [vksV]
  rw [e, List.getElem?_append_right (by simp [vkC]; omega)]
  have e2 : (i + 1) * 8 + j - (vkC q).length = i * 8 + j := by simp [vkC]; omega
  rw [e2]
  exact this
theorem zS (X : List Vk) : ∀ u ∈ vksV X, u.oneCell' = true := by
 intro u hu
 simp only [vksV, List.mem_flatMap, vkC, List.mem_cons, List.not_mem_nil, or_false] at hu
 obtain ⟨p, _, rfl | rfl | rfl | rfl | rfl | rfl | rfl | rfl⟩ := hu <;> rfl
theorem Xd (X : List Vk) (i : Nat) : (vksV X).take (i * 8) = vksV (X.take i) := by
 by_cases h : i <= X.length
 ·have e : vksV X = vksV (X.take i) ++ vksV (X.drop i) := by rw [<- xl, List.take_append_drop]
  rw [e, List.take_append_of_le_length (by rw [ya, List.length_take]; omega), List.take_of_length_le (by rw [ya, List.length_take]; omega)]
 ·rw [List.take_of_length_le (by rw [ya]; omega), List.take_of_length_le (by omega)]
theorem Xf (X : List Vk) (i : Nat) : (vksV X).drop (i * 8) = vksV (X.drop i) := by
 by_cases h : i <= X.length
 ·have e : vksV X = vksV (X.take i) ++ vksV (X.drop i) := by rw [<- xl, List.take_append_drop]
  have el : (vksV (X.take i)).length = i * 8 := by rw [ya, List.length_take]; omega
  rw [e, <- el, List.drop_left]
 ·rw [List.drop_eq_nil_of_le (by rw [ya]; omega), List.drop_eq_nil_of_le (by omega)]
  rfl
structure VsT (w : World) (s : Sl) (X : List Vk) : Prop where
 len : X.length = s.n
 cap : s.n <= s.c
 max : s.c <= maxLen
 see : yP w 49 s.A (vksV X)
 ok : ∀ v ∈ X, zQ w v.c v.ids
 inp : ∀ v ∈ X, InP v.p
theorem VsT.turned {p : Nat -> Prop} {w w' : World} {s : Sl} {X : List Vk} (h : VsT w s X) (ht : Turned p w w') (hi : NoT w 3 p) (hc : NoT w 49 p) : VsT w' s X := ⟨h.len, h.cap, h.max, h.see.turned ht hc, fun k hk => (h.ok k hk).turned ht hi, h.inp⟩
theorem VsT.below {w w' : World} {s : Sl} {X : List Vk} (h : VsT w s X) (hb : Below w.heap.size w w') : VsT w' s X := ⟨h.len, h.cap, h.max, h.see.below hb, fun k hk => (h.ok k hk).below hb, h.inp⟩
theorem VsT.nil (w : World) : VsT w Sl.nil [] := ⟨rfl, Nat.le_refl _, Nat.zero_le _, yP.nil _ _ _, fun k hk => (by cases hk), fun k hk => (by cases hk)⟩
structure VkAt (w : World) (g q : Nat) (v : Vk) : Prop where
 c0 : w.cell? ⟨g, q, none⟩ = some (.int .i64 v.id)
 c1 : w.cell? ⟨g, q + 1, none⟩ = some (.int .i64 v.bl)
 c2 : w.cell? ⟨g, q + 2, none⟩ = some (.int .i64 v.p.re)
 c3 : w.cell? ⟨g, q + 3, none⟩ = some (.int .i64 v.p.we)
 c4 : w.cell? ⟨g, q + 4, none⟩ = some (.int .i64 v.p.li)
 c5 : w.cell? ⟨g, q + 5, none⟩ = some (.int .i64 v.p.bu)
 c6 : w.cell? ⟨g, q + 6, none⟩ = some (.int .i64 v.ver)
 c7 : w.cell? ⟨g, q + 7, none⟩ = some (.slice v.c.A v.c.n v.c.c)
theorem VkAt.below {w w' : World} {g q : Nat} {v : Vk} (h : VkAt w g q v) (hb : Below w.heap.size w w') : VkAt w' g q v := by
 obtain ⟨h0, h1, h2, h3, h4, h5, h6, h7⟩ := h
 exact ⟨by rw [hb.cell (block_lt_of_cell h0)]; exact h0, by rw [hb.cell (block_lt_of_cell h1)]; exact h1, by rw [hb.cell (block_lt_of_cell h2)]; exact h2, by rw [hb.cell (block_lt_of_cell h3)]; exact h3, by rw [hb.cell (block_lt_of_cell h4)]; exact h4, by rw [hb.cell (block_lt_of_cell h5)]; exact h5, by rw [hb.cell (block_lt_of_cell h6)]; exact h6, by rw [hb.cell (block_lt_of_cell h7)]; exact h7⟩
theorem VkAt.pol {w : World} {g q : Nat} {v : Vk} (h : VkAt w g q v) (hp : InP v.p) : Z8 w g (q + 2) v.p := ⟨h.c2, h.c3, h.c4, h.c5, hp⟩
theorem VsT.get {w : World} {s : Sl} {X : List Vk} (h : VsT w s X) {i : Nat} {v : Vk} (hk : X[i]? = some v) : ∃ g o, s.A = some ⟨g, o, none⟩ /\ VkAt w g (o + i * 8) v := by
 have e := XN hk
 rcases h.see.1 with h | ⟨g, o, hA, hc⟩
 ·have := e 0 _ rfl
  rw [h] at this; cases this
 ·exact ⟨g, o, hA, by simpa using hc _ _ (e 0 _ rfl), by rw [Nat.add_assoc, hc _ _ (e 1 _ rfl)], by rw [Nat.add_assoc, hc _ _ (e 2 _ rfl)], by rw [Nat.add_assoc, hc _ _ (e 3 _ rfl)], by rw [Nat.add_assoc, hc _ _ (e 4 _ rfl)], by rw [Nat.add_assoc, hc _ _ (e 5 _ rfl)], by rw [Nat.add_assoc, hc _ _ (e 6 _ rfl)], by rw [Nat.add_assoc, hc _ _ (e 7 _ rfl)]⟩
theorem yG : (Tryz.prog.info? 49).map (fun i => (i.zero, i.size, i.bytes)) = some (some (.agg #[.int .i64 0, .int .i64 0, .int .i64 0, .int .i64 0, .int .i64 0, .int .i64 0, .int .i64 0, .slice none 0 0]), 8, 80) := by kernel_rfl
theorem vk_size : (Tryz.prog.info? 49).map (·.size) = some 8 := by kernel_rfl
structure Rf where
 p : Sl
 v : Sl
 k : Sl
 nx : Int
 X : List Vk
 K : List Ck
 pk : Nat -> Int
def Rf.dat (f : Rf) : RS := ⟨f.pk, f.X.map Vk.dat, f.K.map Ck.dat, f.nx⟩
def Rf.val (f : Rf) : Value := .agg #[.slice f.p.A f.p.n f.p.c, .slice f.v.A f.v.n f.v.c, .slice f.k.A f.k.n f.k.c, .int .i64 f.nx]
def yJ (pk : Nat -> Int) : List Int := (List.range 16).map pk
theorem picks_get (pk : Nat -> Int) {i : Nat} (h : i < 16) : (yJ pk)[i]? = some (pk i) := by
 unfold yJ
 rw [List.getElem?_map, List.getElem?_range h]
 rfl
structure RfOk (w : World) (f : Rf) : Prop where
 p : zQ w f.p (yJ f.pk)
 v : VsT w f.v f.X
 k : KsT w f.k f.K
 vl : f.X.length <= 64
 kl : f.K.length <= 10000
 pin : ∀ i, i < 16 -> 0 <= f.pk i /\ f.pk i <= 64
theorem RfOk.below {w w' : World} {f : Rf} (h : RfOk w f) (hb : Below w.heap.size w w') : RfOk w' f := ⟨h.p.below hb, h.v.below hb, h.k.below hb, h.vl, h.kl, h.pin⟩
theorem RfOk.pn {w : World} {f : Rf} (h : RfOk w f) : f.p.n = 16 := by rw [<- h.p.len]; simp [yJ]
theorem RfOk.pick {w : World} {f : Rf} (h : RfOk w f) {i : Nat} (hi : i < 16) : ∃ g o, f.p.A = some ⟨g, o, none⟩ /\ w.cell? ⟨g, o + i, none⟩ = some (.int .i64 (f.pk i)) := by
 rcases h.p.see.1 with h0 | ⟨g, o, hA, hc⟩
 ·have := congrArg List.length h0
  rw [zz] at this
  simp [yJ] at this
 ·refine ⟨g, o, hA, hc i _ ?_⟩
  unfold zo
  rw [List.getElem?_map, picks_get _ hi]
  rfl
theorem yb (w : World) (f : Rf) : ∃ W, w.alloc (.cells #[.slice f.p.A f.p.n f.p.c, .slice f.v.A f.v.n f.v.c, .slice f.k.A f.k.n f.k.c, .int .i64 f.nx] 32) = W /\ Below w.heap.size w W /\ W.heap[w.heap.size]? = some (.cells #[.slice f.p.A f.p.n f.p.c, .slice f.v.A f.v.n f.v.c, .slice f.k.A f.k.n f.k.c, .int .i64 f.nx] 32 (0, 0)) :=
 ⟨_, rfl, (Below.refl _ _).alloc (Nat.le_refl _) _, heap_alloc_new _ _⟩
theorem zw : (Tryz.prog.info? 32).map (·.size) = some 4 := by kernel_rfl
def ldRf (p : Value) : Sem Value := Instr.loadAt 32 p
theorem yX (p : Value) : Instr.loadAt 32 p = ldRf p := rfl
theorem zR {w : World} {g : Nat} {f : Rf} (h : w.heap[g]? = some (.cells #[.slice f.p.A f.p.n f.p.c, .slice f.v.A f.v.n f.v.c, .slice f.k.A f.k.n f.k.c, .int .i64 f.nx] 32 (0, 0))) :
  (ldRf (.pointer (some ⟨g, 0, none⟩))).run Tryz.prog w = .ok (.agg #[.slice f.p.A f.p.n f.p.c, .slice f.v.A f.v.n f.v.c, .slice f.k.A f.k.n f.k.c, .int .i64 f.nx]) w := by
 have hr : w.rangeAt g 0 [.slice f.p.A f.p.n f.p.c, .slice f.v.A f.v.n f.v.c, .slice f.k.A f.k.n f.k.c, .int .i64 f.nx] := fun j v hv => by
  match j, hv with
  | 0, hv => simp at hv; subst hv; exact zc h 0
  | 1, hv => simp at hv; subst hv; exact zc h 1
  | 2, hv => simp at hv; subst hv; exact zc h 2
  | 3, hv => simp at hv; subst hv; exact zc h 3
 exact run_loadAt_mid w g 0 32 [.slice f.p.A f.p.n f.p.c, .slice f.v.A f.v.n f.v.c, .slice f.k.A f.k.n f.k.c, .int .i64 f.nx] _ hr Tryz.underlying32 rfl zw
end Go.Proofs.YteebkolccbcehaaGreat
end

section
set_option linter.all false
namespace Go.Proofs.YteebkolccbcehaaGreat
open Go.ChangeShapes Go.WideShapes Go.ChangeAt Go.RowKit
section
variable {P : Program} {w : World}
theorem zF {o : Oper} {a : Act} {K : Act -> World -> Prop} {Q : Exit -> Act -> World -> Prop} (s x : Operand) (t : TypeId)
  (ho : o.op = .call { callee := .builtin .append, args := #[s, x], argTypes := #[t, t] })
  (e : TypeId) (z : Value) (size bytes : Nat) (ht : P.underlying t = some (.slice e)) (hinfo : (P.info? e).map (fun i => (i.zero, i.size, i.bytes)) = some (some z, size, bytes)) (hz1 : z.cells.size = size) (hsz : 0 < size)
  (base : Nat) (A : Option Addr) (n c : Nat) (xs : List Value) (hs : a.eval s = .slice A n c) (hown : w.ownsRow base e size (.slice A n c) n xs)
  (A2 : Option Addr) (m c2 : Nat) (news : List Value) (hx : a.eval x = .slice A2 m c2) (hm : news.length = m * size) (hsee : Seen w A2 news) (h1 : ∀ u ∈ news, u.oneCell' = true)
  (h63 : n + m <= maxLen) (hbytes : (n + m) * bytes <= 140737488355328) (hbase : base <= w.heap.size)
  (h : ∀ A' c' w', w'.ownsRow base e size (.slice A' (n + m) c') (n + m) (xs ++ news) -> w.grownBy w' (Value.slice A n c).ownBlock -> (∀ k, (Value.slice A' (n + m) c').ownBlock = some k -> (Value.slice A n c).ownBlock = some k \/ k = w.heap.size) ->
   K (a.put o.dst (.slice A' (n + m) c')) w') : Oper.wp P o a w K Q := by
 obtain ⟨i, hi, hz, hss, hb⟩ := info_parts hinfo
 have hrun : ∃ A' c' w', (Builtin.append_ #[t, t] o.type #[.slice A n c, .slice A2 m c2]).run P w = .ok (.slice A' (n + m) c') w' /\ w'.ownsRow base e size (.slice A' (n + m) c') (n + m) (xs ++ news) /\ w.grownBy w' (Value.slice A n c).ownBlock /\
   (∀ k, (Value.slice A' (n + m) c').ownBlock = some k -> (Value.slice A n c).ownBlock = some k \/ k = w.heap.size) := by
  cases A2 with
  | none =>
   have hn : news = [] := by
    rcases hsee with h | ⟨g, o, hA, _⟩
    ·exact h
    ·cases hA
   subst hn
   have hm0 : m = 0 := by
    rcases Nat.eq_zero_or_pos m with h | h
    ·exact h
    ·have := Nat.mul_pos h hsz
     simp at hm; omega
   subst hm0
   refine ⟨A, c, w, ?_, by simpa using hown, ⟨rfl, rfl, rfl, Nat.le_refl _, fun _ _ _ => rfl⟩, fun k hk => .inl hk⟩
   rcases hown.2 with ⟨hv, hn⟩ | ⟨g, cap, cur, hv, _, _, hnc, _⟩
   ·injection hv with h1 h2 h3
    subst h1; subst h2; subst h3
    simp [Builtin.append_, run_underlying ht, sizeOf, typeInfo, hi, Builtin.lenOf, Builtin.firstCells]
   ·injection hv with h1 h2 h3
    subst h1; subst h3
    simp [Builtin.append_, run_underlying ht, sizeOf, typeInfo, hi, Builtin.lenOf, Builtin.firstCells, hnc, storeCells]
  | some ad =>
   have hcells : ∀ (j : Nat) u, news[j]? = some u -> w.cell? (ad.add j) = some u := by
    intro j u hu
    rcases hsee with rfl | ⟨g, o, hA, hc⟩
    ·simp at hu
    ·injection hA with hA
     rw [hA, Addr.add_lit]
     exact hc j u hu
   obtain ⟨v', w', hrun, hown', hg, _, hblk⟩ := run_append_own_at (P := P) w base t o.type e i z size bytes ht hi hz hss hb hz1 hsz _ n xs hown ad m c2 news hm hcells h1 h63 hbytes hbase
   obtain ⟨A', c', rfl⟩ := Xi hown'
   refine ⟨A', c', w', hrun, hown', hg, fun k hk => ?_⟩
   rcases hblk with h | h
   ·exact .inl (by rw [<- h]; exact hk)
   ·rw [h] at hk
    injection hk with hk
    exact .inr hk.symm
 obtain ⟨A', c', w', hrun, hown', hg, hblk⟩ := hrun
 unfold Oper.wp execOp
 simp only [ho, resolve, invoke, builtin, Sem.run_bind, Sem.run_pure, Result.andThen_ok, List.map_toArray, List.map_cons, List.map_nil, hs, hx, hrun]
 exact (h A' c' w' hown' hg hblk)
end
theorem yk {w : World} {B : Nat} (e : TypeId) (z : Nat) (hB : B <= w.heap.size) : (w.alloc (.cells #[] e)).ownsRow B e z (.slice (some ⟨w.heap.size, 0, none⟩) 0 0) 0 [] :=
 ⟨by simp, .inr ⟨w.heap.size, 0, #[], rfl, hB, heap_alloc_new _ _, Nat.le_refl _, Nat.zero_le _, by simp, by simp⟩⟩
end Go.Proofs.YteebkolccbcehaaGreat
end
