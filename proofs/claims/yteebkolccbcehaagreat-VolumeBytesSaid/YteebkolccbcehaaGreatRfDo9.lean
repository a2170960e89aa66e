/-
  Contract of dotterelref18's do: kind 2 where it goes through. Conditions: a state whose rows are its own, a command of numbers that an int holds.
-/
import Derived.Test.YteebkolccbcehaaGreatJV
set_option linter.all false
namespace Go.Proofs.YteebkolccbcehaaGreat
open Go.ChangeShapes Go.WideShapes Go.ChangeAt Go.RowKit
attribute [local irreducible] wpQuiet
def bdVk (parts : Array (Nat × Value)) : Sem Value := Instr.build 49 parts
theorem bdVk_eq (parts : Array (Nat × Value)) : Instr.build 49 parts = bdVk parts := rfl
theorem bdVk_run (w : World) (id bl a b c d : Int) :
  (bdVk #[(0, .int .i64 id), (1, .int .i64 bl), (2, .agg #[.int .i64 a, .int .i64 b, .int .i64 c, .int .i64 d]), (3, .int .i64 1)]).run Tryz.prog w = .ok (.agg #[.int .i64 id, .int .i64 bl, .int .i64 a, .int .i64 b, .int .i64 c, .int .i64 d, .int .i64 1, .slice none 0 0]) w := by kernel_rfl
theorem Zy {P : Program} {w : World} {ops : Array Oper} {rest : List Oper} {o : Oper} {a : Act} {Q : Exit -> Act -> World -> Prop} (hgd : o.guard = none) (s x : Operand) (t : TypeId)
  (ho : o.op = .call { callee := .builtin .append, args := #[s, x], argTypes := #[t, t] })
  (e : TypeId) (z : Value) (size bytes : Nat) (ht : P.underlying t = some (.slice e)) (hinfo : (P.info? e).map (fun i => (i.zero, i.size, i.bytes)) = some (some z, size, bytes)) (hz1 : z.cells.size = size) (hsz : 0 < size)
  (base : Nat) (A : Option Addr) (n c : Nat) (xs : List Value) (hs : a.eval s = .slice A n c) (hown : w.ownsRow base e size (.slice A n c) n xs)
  (A2 : Option Addr) (m c2 : Nat) (news : List Value) (hx : a.eval x = .slice A2 m c2) (hm : news.length = m * size) (hsee : Seen w A2 news) (h1 : ∀ u ∈ news, u.oneCell' = true)
  (h63 : n + m <= maxLen) (hbytes : (n + m) * bytes <= 140737488355328) (hbase : base <= w.heap.size)
  (h : ∀ A' c' w', w'.ownsRow base e size (.slice A' (n + m) c') (n + m) (xs ++ news) -> w.grownBy w' (Value.slice A n c).ownBlock -> (∀ k, (Value.slice A' (n + m) c').ownBlock = some k -> (Value.slice A n c).ownBlock = some k \/ k = w.heap.size) ->
   wpList P ops Q rest (a.put o.dst (.slice A' (n + m) c')) w') : wpList P ops Q (o :: rest) a w :=
 wpList_plain hgd fun K hK => zF s x t ho e z size bytes ht hinfo hz1 hsz base A n c xs hs hown A2 m c2 news hx hm hsee h1 h63 hbytes hbase fun A' c' w' a1 a2 a3 => hK _ _ (h A' c' w' a1 a2 a3)
theorem ins_at {X : List Vk} {a : Int} {k : Nat} (h1 : ∀ (j : Nat) (x : Vk), X[j]? = some x -> j < k -> x.id < a) (h2 : k = X.length \/ ∃ x, X[k]? = some x /\ ¬ x.id < a) (hk : k <= X.length) : xv (X.map Vk.dat) a = k := by
 unfold xv
 induction X generalizing k with
 | nil => simp at hk; subst hk; rfl
 | cons y X ih =>
  match k with
  | 0 =>
   rcases h2 with h2 | ⟨x, hx, hn⟩
   ·simp at h2
   ·simp at hx
    subst hx
    simp [Vk.dat, hn]
  | k + 1 =>
   have hy := h1 0 y rfl (by omega)
   have := ih (k := k) (fun j x hj hlt => h1 (j + 1) x (by simpa using hj) (by omega)) (by
    rcases h2 with h2 | ⟨x, hx, hn⟩
    ·left; simpa using h2
    ·right; exact ⟨x, by simpa using hx, hn⟩) (by simpa using hk)
   rw [List.map_cons, List.takeWhile_cons, if_pos (show decide (y.dat.id < a) = true from decide_eq_true hy), List.length_cons, this]
theorem count_lo {b : Int} {l m : Nat} (hb : 1 <= b) (hm : (l : Int) + (m : Int) = zx b) : (∀ n : Nat, n < m -> 8 * ((l : Int) + (n : Int)) < b) /\ b <= 8 * ((l : Int) + (m : Int)) := by
 unfold zx at hm
 exact ⟨fun n hn => by omega, by omega⟩
theorem QU {f : Rf} {c : Cmd} {B k c6 : Nat} {A6 : Option Addr} {w0 w w1 w2 w3 U5 U6 : World} (ho : xh B w0 w f) (hbw : Below w.heap.size w w3) (hsz : w.heap.size < w1.heap.size /\ w1.heap.size < w2.heap.size /\ w2.heap.size < w3.heap.size)
  (hs3 : w3.heap[w.heap.size]? = some (.cells #[.slice f.p.A f.p.n f.p.c, .slice f.v.A f.v.n f.v.c, .slice f.k.A f.k.n f.k.c, .int .i64 f.nx] 32 (0, 0)))
  (hc3 : w3.heap[w1.heap.size]? = some (.cells #[.int .i64 c.k, .int .i64 c.a, .int .i64 c.b, .int .i64 c.c, .int .i64 c.p.re, .int .i64 c.p.we, .int .i64 c.p.li, .int .i64 c.p.bu] 39 (0, 0))) (hr3 : w3.heap[w2.heap.size]? = some (.cells #[.slice none 0 0, .slice none 0 0, .slice none 0 0, .int .i64 0] 32 (0, 0)))
  (hb5 : Below w3.heap.size w3 U5) (hk : k <= f.v.n) (o5 : U5.ownsRow w3.heap.size 49 8 (.slice A6 (k + 1 + (f.v.n - k)) c6) (k + 1 + (f.v.n - k)) (vksV (f.X.take k ++ [⟨c.a, c.b, c.p, 1, Sl.nil, []⟩] ++ f.X.drop k)))
  (e6 : U5.setCell ⟨w.heap.size, 1, none⟩ (.slice A6 (k + 1 + (f.v.n - k)) c6) = U6) (hp : InP c.p) (n3 : 1 <= c.b) (n4 : c.b <= 512) (n5 : 1 <= c.c) (n6 : c.c <= 3)
  (hnd : ∀ k ∈ f.dat.cs, (k.ms ++ k.js).Nodup) (hkl : f.K.length <= 8000) (hnx : 0 <= f.nx /\ f.nx <= 1099511627776) (hvl : f.X.length <= 63) :
  U5.cell? ⟨w.heap.size, 1, none⟩ = some (.slice f.v.A f.v.n f.v.c) /\ U5.frozen? ⟨w.heap.size, 1, none⟩ = false /\
   (ldRf (.pointer (some ⟨w.heap.size, 0, none⟩))).run Tryz.prog U6 = .ok (.agg #[.slice f.p.A f.p.n f.p.c, .slice A6 (k + 1 + (f.v.n - k)) c6, .slice f.k.A f.k.n f.k.c, .int .i64 f.nx]) U6 /\ U6.cell? ⟨w1.heap.size, 3, none⟩ = some (.int .i64 c.c) /\
   U6.heap[w2.heap.size]? = some (.cells #[.slice none 0 0, .slice none 0 0, .slice none 0 0, .int .i64 0] 32 (0, 0)) /\ Below w.heap.size w U6 /\
   (Value.slice A6 (k + 1 + (f.v.n - k)) c6).ownBlock ≠ some w2.heap.size /\ (∀ b, (Value.slice A6 (k + 1 + (f.v.n - k)) c6).ownBlock = some b -> w3.heap.size <= b) /\
   Calls Tryz.prog 52 #[.agg #[.slice f.p.A f.p.n f.p.c, .slice A6 (k + 1 + (f.v.n - k)) c6, .slice f.k.A f.k.n f.k.c, .int .i64 f.nx], .int .i64 (k : Int), .int .i64 c.c] U6
    (Xa { f with v := ⟨A6, k + 1 + (f.v.n - k), c6⟩, X := f.X.take k ++ [⟨c.a, c.b, c.p, 1, Sl.nil, []⟩] ++ f.X.drop k }
     (Zu { f.dat with vs := f.dat.vs.take k ++ [⟨c.a, c.b, c.p, 1, []⟩] ++ f.dat.vs.drop k } k ⟨c.a, c.b, c.p, 1, []⟩ c.c.toNat (zx c.b).toNat) U6) := by
 obtain ⟨z1, z2, z3⟩ := hsz
 have h := ho.ok
 have bs5 := za hs3 hb5
 have c1 := zc bs5 1
 simp at c1
 have bs6 : U6.heap[w.heap.size]? = some (.cells #[.slice f.p.A f.p.n f.p.c, .slice A6 (k + 1 + (f.v.n - k)) c6, .slice f.k.A f.k.n f.k.c, .int .i64 f.nx] 32 (0, 0)) := by rw [<- e6]; exact zG bs5 1 _
 have t56 : Turned (fun b => b = w.heap.size) U5 U6 := by rw [<- e6]; exact (Turned.refl (fun b => b = w.heap.size) U5).setCell (b := ⟨w.heap.size, 1, none⟩) (fun _ => rfl) _
 have bc6 := t56.heap (za hc3 hb5) (by omega)
 have br6 := t56.heap (za hr3 hb5) (by omega)
 have hb35 : Below w.heap.size w U5 := hbw.trans (hb5.mono hbw.size)
 have hb6 : Below w.heap.size w U6 := hb35.trans (t56.below (B := w.heap.size) (fun b e => by omega) hb35.size)
 have oV := ze t56 o5 (fun b e hb => by have := (o5.lt b e).1; omega)
 have hlen := h.v.len
 have hX1 : (f.X.take k ++ [(⟨c.a, c.b, c.p, 1, Sl.nil, []⟩ : Vk)] ++ f.X.drop k)[k]? = some ⟨c.a, c.b, c.p, 1, Sl.nil, []⟩ := by
  have e1 : (f.X.take k).length = k := by rw [List.length_take]; omega
  rw [List.append_assoc, List.getElem?_append_right (by omega), e1, Nat.sub_self]
  rfl
 have mem : ∀ x ∈ f.X.take k ++ [(⟨c.a, c.b, c.p, 1, Sl.nil, []⟩ : Vk)] ++ f.X.drop k, x ∈ f.X \/ x = ⟨c.a, c.b, c.p, 1, Sl.nil, []⟩ := fun x hx => by
  rcases List.mem_append.1 hx with hx | hx
  ·rcases List.mem_append.1 hx with hx | hx
   ·exact .inl (List.mem_of_mem_take hx)
   ·exact .inr (List.mem_singleton.1 hx)
  ·exact .inl (List.mem_of_mem_drop hx)
 have ok : RfOk U6 { f with v := ⟨A6, k + 1 + (f.v.n - k), c6⟩, X := f.X.take k ++ [⟨c.a, c.b, c.p, 1, Sl.nil, []⟩] ++ f.X.drop k } := by
  refine ⟨h.p.below hb6, VsT.own oV (fun x hx => ?_) (fun x hx => ?_), h.k.below hb6, ?_, h.kl, h.pin⟩
  ·rcases mem x hx with hx | rfl
   ·exact (h.v.ok x hx).below hb6
   ·exact zQ.nil _
  ·rcases mem x hx with hx | rfl
   ·exact h.v.inp x hx
   ·exact hp
  ·show (f.X.take k ++ [_] ++ f.X.drop k).length <= 64
   rw [List.length_append, List.length_append, List.length_take, List.length_drop]
   simp
   omega
 have hcb : 1 <= zx c.b /\ zx c.b <= 64 := by unfold zx; omega
 have hm : ((([] : List Int).length : Nat) : Int) + (((zx c.b).toNat : Nat) : Int) = zx c.b := by simp; omega
 obtain ⟨m1, m2⟩ := count_lo n3 hm
 have K := Rfill { f with v := ⟨A6, k + 1 + (f.v.n - k), c6⟩, X := f.X.take k ++ [⟨c.a, c.b, c.p, 1, Sl.nil, []⟩] ++ f.X.drop k } k c.c.toNat (zx c.b).toNat w3.heap.size ⟨c.a, c.b, c.p, 1, Sl.nil, []⟩ U6 ok oV hX1 hnd (by omega) (by show f.K.length + _ <= 9000; omega) hnx ⟨by show 0 <= c.b; omega, n4⟩ (by show 0 + _ <= 64; omega) m1 m2
 rw [show ((c.c.toNat : Nat) : Int) = c.c by omega] at K
 refine ⟨c1, zt bs5 1, zR (f := { f with v := ⟨A6, k + 1 + (f.v.n - k), c6⟩ }) bs6, zc bc6 3, br6, hb6, fun e => ?_, fun b e => (o5.lt b e).1, ?_⟩
 ·have := (o5.lt _ e).1; omega
 ·have e2 : ({ f with v := ⟨A6, k + 1 + (f.v.n - k), c6⟩, X := f.X.take k ++ [⟨c.a, c.b, c.p, 1, Sl.nil, []⟩] ++ f.X.drop k } : Rf).dat = { f.dat with vs := f.dat.vs.take k ++ [⟨c.a, c.b, c.p, 1, []⟩] ++ f.dat.vs.drop k } := by
   unfold Rf.dat
   simp [List.map_take, List.map_drop, Vk.dat]
  rw [e2] at K
  exact K
attribute [local go_sem ↓] yX y9 yd yv yK yA bdVk_eq
set_option maxRecDepth 100000 in
set_option maxHeartbeats 2000000 in
theorem Rdo_2yes (f : Rf) (c : Cmd) (B : Nat) (w0 w : World) (ho : xh B w0 w f) (hc : yj c) (hk : c.k = 2) (n1 : 0 <= c.a) (n2 : c.a <= 63) (n3 : 1 <= c.b) (n4 : c.b <= 512) (n5 : 1 <= c.c) (n6 : c.c <= 3) (hr : yc c.p = true) (hv : yS f.dat.vs c.a = none) (hs : ¬ ((zm f.pk).length : Int) < c.c)
  (hnd : ∀ k ∈ f.dat.cs, (k.ms ++ k.js).Nodup) (hkl : f.K.length <= 8000) (hnx : 0 <= f.nx /\ f.nx <= 1099511627776) (hvl : f.X.length <= 63) :
  Calls Tryz.prog 17 #[f.val, cmdA c] w (yg f (Zu { f.dat with vs := f.dat.vs.take (xv f.dat.vs c.a) ++ [⟨c.a, c.b, c.p, 1, []⟩] ++ f.dat.vs.drop (xv f.dat.vs c.a) } (xv f.dat.vs c.a) ⟨c.a, c.b, c.p, 1, []⟩ c.c.toNat (zx c.b).toNat) 0 w) := by
 have h := ho.ok
 unfold Rf.val cmdA
 obtain ⟨w1, hw1, hb1, hr1⟩ := yb w f
 obtain ⟨w2, hw2, hb2, hr2⟩ := zN w1 c
 obtain ⟨w3, hw3⟩ : ∃ w3, w2.alloc (.cells #[.slice none 0 0, .slice none 0 0, .slice none 0 0, .int .i64 0] 32) = w3 := ⟨_, rfl⟩
 have hb3 : Below w2.heap.size w2 w3 := by rw [<- hw3]; exact zg _ _
 have hr3 : w3.heap[w2.heap.size]? = some (.cells #[.slice none 0 0, .slice none 0 0, .slice none 0 0, .int .i64 0] 32 (0, 0)) := by rw [<- hw3]; exact heap_alloc_new _ _
 have hb12 : Below w.heap.size w w2 := hb1.trans (hb2.mono hb1.size)
 have hbw : Below w.heap.size w w3 := hb12.trans (hb3.mono hb12.size)
 have h1 := za (za hr1 hb2) hb3
 have h2 := za hr2 hb3
 have Hr3 := ihq hr3; have Hbw := ihq hbw; have HW := ihq h
 have Hsz := ihq (show w.heap.size < w1.heap.size /\ w1.heap.size < w2.heap.size /\ w2.heap.size < w3.heap.size from ⟨(Array.getElem?_eq_some_iff.1 hr1).1, (Array.getElem?_eq_some_iff.1 hr2).1, (Array.getElem?_eq_some_iff.1 hr3).1⟩)
 have F := ihq (fun V (hv : Below w3.heap.size w3 V) => (zK.of (za h1 hv) (za h2 hv) : zK w w1 f c V))
 have H3 := ihq (h.below hbw)
 have K1 := ihq (RVol f c.a w3 (h.below hbw))
 unfold Rf.val at K1
 obtain ⟨s0, s1, s2, s3, sl, c0, c1, c2, c3⟩ := F.out w3 (Below.refl _ _)
 rw [hv] at K1
 simp only [ixV] at K1
 have hk1 : (c.k == 1) = false := by simp; omega
 have hk2 : (c.k == 2) = true := by simpa using hk
 have KR := ihq (fun V (hv : Below w3.heap.size w3 V) => xA c.p V)
 rw [hr] at KR
 have HPl := ihq (fun V (hv : Below w3.heap.size w3 V) => zZ (xT.pol (w := w1) (za h2 hv) hc.hp))
 have a1 : ¬ c.a < 0 := by omega
 have a2 : ¬ 63 < c.a := by omega
 have a3 : ¬ c.b < 1 := by omega
 have a4 : ¬ 512 < c.b := by omega
 have a5 : ¬ c.c < 1 := by omega
 have a6 : ¬ 3 < c.c := by omega
 obtain ⟨cs, hcs⟩ : ∃ n, (zm f.pk).length = n := ⟨_, rfl⟩
 rw [hcs] at hs
 have KN := ihq (fun V (hv : Below w3.heap.size w3 V) => (show Calls Tryz.prog 51 #[.agg #[.slice f.p.A f.p.n f.p.c, .slice f.v.A f.v.n f.v.c, .slice f.k.A f.k.n f.k.c, .int .i64 f.nx]] V fun e w' => e = .returned (.int .i64 (cs : Int)) /\ Below V.heap.size V w' from by
  have := Rcount f V (H3.out.below hv)
  rw [show cntR f.pk 16 = cs from hcs] at this
  exact this))
 have Hs := ihq hs; have HO := ihq ho; have Hnd := ihq hnd; have Hkl := ihq hkl; have Hnx := ihq hnx; have Hvl := ihq hvl; have Hcp := ihq hc.hp
 have Hs3 := ihq h1; have Hc3 := ihq h2
 have hlen := h.v.len
 have hcap := h.v.cap
 have Hlen := ihq hlen
 have hn63 : f.v.n <= 63 := by omega
 obtain ⟨R, hR⟩ : ∃ R, Zu { f.dat with vs := f.dat.vs.take (xv f.dat.vs c.a) ++ [⟨c.a, c.b, c.p, 1, []⟩] ++ f.dat.vs.drop (xv f.dat.vs c.a) } (xv f.dat.vs c.a) ⟨c.a, c.b, c.p, 1, []⟩ c.c.toNat (zx c.b).toNat = R := ⟨_, rfl⟩
 rw [hR]
 have HR := ihq hR
 clear hk hr hv hcs ho hnd hkl hnx hvl hlen hR hc
 clear h hb1 hb2 hb3 hb12 hbw hr1 hr2 hr3 h1 h2
 go_enter Tryz.func17, Tryz.ntmps17
 go_upto_region 13 with (first
  | (go_at_call 50; refine (KR.out w4 Hb4.out).mono ?_; rintro e w5 ⟨rfl, hb5⟩; have Hb5 := ihq (Hb4.out.trans (hb5.mono Hb4.out.size)); obtain ⟨xs0, xs1, xs2, xs3, xsl, xc0, xc1, xc2, xc3⟩ := F.out w5 Hb5.out; clear hb5)
  | (go_at_call 49; refine K1.out.mono ?_; rintro e w4 ⟨rfl, hb4⟩; have Hb4 := ihq hb4; obtain ⟨ds0, ds1, ds2, ds3, dsl, dc0, dc1, dc2, dc3⟩ := F.out w4 hb4; have hpl := HPl.out w4 hb4; clear hb4))
 have q0 : ∀ p : zO w5, (ldRf (.pointer (some ⟨w.heap.size, 0, none⟩))).run Tryz.prog p.v = .ok (.agg #[.slice f.p.A f.p.n f.p.c, .slice f.v.A f.v.n f.v.c, .slice f.k.A f.k.n f.k.c, .int .i64 f.nx]) p.v := fun p => (F.out p.v (Hb5.out.trans (p.h.mono Hb5.out.size))).sl
 have q1 : ∀ p : zO w5, p.v.cell? ⟨w1.heap.size, 3, none⟩ = some (.int .i64 c.c) := fun p => (F.out p.v (Hb5.out.trans (p.h.mono Hb5.out.size))).c3
 have KB := ihq (fun p : zO w5 => Calls.below_of (KN.out p.v (Hb5.out.trans (p.h.mono Hb5.out.size))))
 refine zB (by kernel_rfl) (by kernel_rfl) ?_
 repeat (quiet_step (fail))
 quiet_step (exact (KB.out _))
 repeat (quiet_step (fail))
 refine wpQuiet_nil ?_
 rintro w8 ⟨⟨w6, hb6⟩, e⟩
 have e2 : w6 = w8 := e.symm
 subst e2
 clear e q0 q1
 have Hb6 := ihq (Hb5.out.trans (hb6.mono Hb5.out.size))
 have hs := Hs.out
 clear hb6
 go_wp2
 go_loopw [7] (fun kv wr => ∃ k : Nat, k <= f.v.n /\ kv = .int .i64 (k : Int) /\ (∀ (j : Nat) (x : Vk), f.X[j]? = some x -> j < k -> x.id < c.a) /\ Below w6.heap.size w6 wr) (fun kv _ => f.v.n - (intOf kv).toNat)
 case atStart => exact ⟨0, Nat.zero_le _, rfl, fun j x _ hj => by omega, Below.refl _ _⟩
 case round =>
  obtain ⟨k, hkn, rfl, hlo, hb⟩ := hrel
  have Hlo := ihq hlo
  have Hbr := ihq (Hb6.out.trans (hb.mono Hb6.out.size))
  have Hb := ihq hb
  clear hlo hb
  have k0 : (0 : Int) <= (k : Int) := by omega
  obtain ⟨zs0, zs1, zs2, zs3, zsl, zc0, zc1, zc2, zc3⟩ := F.out wr Hbr.out
  by_cases hgo : ∃ x, f.X[k]? = some x /\ x.id < c.a
  ·obtain ⟨x, hx, hid⟩ := hgo
   have hlt : k < f.v.n := by have := (List.getElem?_eq_some_iff.1 hx).1; have := Hlen.out; omega
   obtain ⟨gv, ov, hAv, hat⟩ := (H3.out.below Hbr.out).volAt hx
   have x0 := ((hat wr (Below.refl _ _)).1).c0
   rw [hAv] at zs1
   have k1 : (k : Int) < (f.v.n : Int) := by omega
   have Hx := ihq hx
   have Hid2 := ihq hid
   clear hx hat hAv
   go_upto_region 16 with fail
   go_quiet (fail)
   go_wp2
   go_roundw
   case rel => exact ⟨k + 1, by omega, by go_num, fun j y hj hjk => by
    by_cases e : j = k
    ·subst e
     rw [Hx.out] at hj
     injection hj with hj
     rw [<- hj]; exact Hid2.out
    ·exact Hlo.out j y hj (by omega), yi Hb.out _⟩
   case measure => simp [intOf]; omega
  ·have hways : (∃ x, f.X[k]? = some x /\ ¬ x.id < c.a) \/ k = f.v.n := by
    by_cases hlt : k < f.v.n
    ·obtain ⟨x, hx⟩ : ∃ x, f.X[k]? = some x := ⟨_, List.getElem?_eq_getElem (by have := Hlen.out; omega)⟩
     exact .inl ⟨x, hx, fun e => hgo ⟨x, hx, e⟩⟩
    ·exact .inr (by omega)
   have hins : xv f.dat.vs c.a = k := ins_at Hlo.out (by rcases hways with h | h; exact .inr h; exact .inl (by have := Hlen.out; omega)) (by have := Hlen.out; omega)
   have Hins := ihq hins
   have zs1' := zs1
   clear hgo hins
   rcases hways with ⟨x, hx, hid⟩ | hkn
   case' inl =>
    have hlt : k < f.v.n := by have := (List.getElem?_eq_some_iff.1 hx).1; have := Hlen.out; omega
    obtain ⟨gv, ov, hAv, hat⟩ := (H3.out.below Hbr.out).volAt hx
    have x0 := ((hat wr (Below.refl _ _)).1).c0
    rw [hAv] at zs1
    have k1 : (k : Int) < (f.v.n : Int) := by omega
    have hid' : decide (x.id < c.a) = false := by simpa using hid
    clear hx hat hAv hid zs1'
    go_upto_region 16 with fail
    refine wp_region_quiet_lit (by kernel_rfl) (by kernel_rfl) ?_
    repeat (quiet_step (fail))
    refine wpQuiet_nil ?_
    intro V0 hV0
   case' inr =>
    have k1 : decide ((k : Int) < (f.v.n : Int)) = false := by simp; omega
    have k2 : ¬ (k : Int) < (f.v.n : Int) := by omega
    clear hkn
    go_upto_region 16 with fail
    refine wp_region_quiet_lit (by kernel_rfl) (by kernel_rfl) ?_
    repeat (quiet_step (fail))
    refine wpQuiet_nil ?_
    intro V0 hV0
   all_goals
    have hbV : Below w3.heap.size w3 V0 := Hbr.out.trans ((by obtain ⟨nq, e⟩ := hV0; rw [e]; exact yi (Below.refl _ _) nq : Below wr.heap.size wr V0).mono Hbr.out.size)
    have HbV := ihq hbV
    clear hV0 hbV zs0 zs1 zs2 zs3 zsl zc0 zc1 zc2 zc3
    obtain ⟨U1, hU1⟩ : ∃ W, V0.alloc (.cells #[] 49) = W := ⟨_, rfl⟩
    have P1 := ihq (show U1.ownsRow w3.heap.size 49 8 (.slice (some ⟨V0.heap.size, 0, none⟩) 0 0) 0 [] from (by rw [<- hU1]; exact yk _ _ HbV.out.size))
    have HC1 := ihq (HbV.out.trans ((show Below V0.heap.size V0 U1 from (by rw [<- hU1]; exact zg _ _)).mono HbV.out.size))
    obtain ⟨zs0, zs1, zs2, zs3, zsl, zc0, zc1, zc2, zc3⟩ := F.out U1 HC1.out
    have hkc : (k : Int) <= (f.v.c : Int) := by have := hcap; omega
    have hkn2 : (k : Int) <= (f.v.n : Int) := by omega
    have hvn2 : (f.v.n : Int) <= (f.v.c : Int) := by have := hcap; omega
    have HVs := ihq (fun V (hv : Below w3.heap.size w3 V) => (H3.out.below hv).v.see.1)
    have HLk := ihq (show (vksV (f.X.take k)).length = k * 8 by rw [ya, List.length_take]; have := Hlen.out; omega)
    have HLd := ihq (show (vksV (f.X.drop k)).length = (f.v.n - k) * 8 by rw [ya, List.length_drop, Hlen.out])
    have HSk := ihq (show ∀ V, Below w3.heap.size w3 V -> Seen V f.v.A (vksV (f.X.take k)) from fun V hv => by rw [<- Xd]; exact (HVs.out V hv).take _)
    have HSb := ihq (show ¬ f.v.c = k -> ∀ V, Below w3.heap.size w3 V -> Seen V (Option.map (fun x => x.add (k * 8)) f.v.A) (vksV (f.X.drop k)) from fun hce V hv => by
     rw [<- Xf]
     rcases HVs.out V hv with h0 | ⟨g', o', e, hcells⟩
     ·rw [h0]; exact .inl (by simp)
     ·rw [e]
      refine .inr ⟨g', o' + k * 8, by simp [Addr.add_lit], fun j x hx => ?_⟩
      rw [List.getElem?_drop] at hx
      have := hcells _ _ hx
      rwa [show o' + k * 8 + j = o' + (k * 8 + j) by omega])
    have HSa := ihq (show ∀ V, Below w3.heap.size w3 V -> Seen V (if f.v.c = k then f.v.A else Option.map (fun x => x.add (k * 8)) f.v.A) (vksV (f.X.drop k)) from fun V hv => by
     by_cases hce : f.v.c = k
     ·have e : f.X.drop k = [] := List.drop_eq_nil_of_le (by rw [Hlen.out]; omega)
      rw [e]
      exact .inl rfl
     ·rw [if_neg hce]
      exact HSb.out hce V hv)
    go_wp2_with (first
     | (at_builtin; refine Zy rfl (.tmp 115) (.tmp 119) _ rfl 49 _ 8 80 Tryz.underlying29 yG rfl (by omega) w3.heap.size (some ⟨V0.heap.size, 0, none⟩) 0 0 [] rfl P1.out f.v.A k f.v.c (vksV (f.X.take k)) rfl HLk.out (HSk.out _ HC1.out) (zS _) (by unfold maxLen; omega) (by omega) HC1.out.size ?_; intro A4 c4 U2 hown hg hbk; simp only [Nat.zero_add, List.nil_append] at hown ⊢; have P2 := ihq hown; have HC2 := ihq (HC1.out.trans ((Turned.of_grown (p := fun b => (Value.slice (some ⟨V0.heap.size, 0, none⟩) 0 0).ownBlock = some b) hg (fun k e => e)).below (B := w3.heap.size) (fun k e => (P1.out.lt k e).1) HC1.out.size)); obtain ⟨ys0, ys1, ys2, ys3, ysl, yc0, yc1, yc2, yc3⟩ := F.out U2 HC2.out; have hpl2 := HPl.out U2 HC2.out; have hbd := fun W => bdVk_run W c.a c.b c.p.re c.p.we c.p.li c.p.bu; obtain ⟨U3, hU3⟩ : ∃ W, U2.alloc (.cells #[.int .i64 c.a, .int .i64 c.b, .int .i64 c.p.re, .int .i64 c.p.we, .int .i64 c.p.li, .int .i64 c.p.bu, .int .i64 1, .slice none 0 0] 49) = W := ⟨_, rfl⟩; have hb23 : Below U2.heap.size U2 U3 := (by rw [<- hU3]; exact zg _ _); have P3 := ihq (zh hown hb23); have HC3 := ihq (HC2.out.trans (hb23.mono HC2.out.size)); have S3 := ihq (show Seen U3 (some ⟨U2.heap.size, 0, none⟩) (vkC ⟨c.a, c.b, c.p, 1, Sl.nil, []⟩) from (by rw [<- hU3]; exact Seen.of_cells (heap_alloc_new U2 _))); clear hown hg hbk hb23)
     | (at_builtin; refine Zy rfl (.tmp 121) (.tmp 129) _ rfl 49 _ 8 80 Tryz.underlying29 yG rfl (by omega) w3.heap.size A4 k c4 (vksV (f.X.take k)) rfl P3.out (some ⟨U2.heap.size, 0, none⟩) 1 1 (vkC ⟨c.a, c.b, c.p, 1, Sl.nil, []⟩) rfl rfl S3.out (by intro u hu; rw [<- Xe] at hu; exact zS _ u hu) (by unfold maxLen; omega) (by omega) HC3.out.size ?_; intro A5 c5 U4 hown hg hbk; rw [<- Xe, <- xl] at hown; have P4 := ihq hown; have HC4 := ihq (HC3.out.trans ((Turned.of_grown (p := fun b => (Value.slice A4 k c4).ownBlock = some b) hg (fun k e => e)).below (B := w3.heap.size) (fun k e => (P3.out.lt k e).1) HC3.out.size)); obtain ⟨xs0, xs1, xs2, xs3, xsl, xc0, xc1, xc2, xc3⟩ := F.out U4 HC4.out; clear hown hg hbk)
     | (at_builtin; refine Zy rfl (.tmp 131) (.tmp 135) _ rfl 49 _ 8 80 Tryz.underlying29 yG rfl (by omega) w3.heap.size A5 (k + 1) c5 (vksV (f.X.take k ++ [⟨c.a, c.b, c.p, 1, Sl.nil, []⟩])) rfl P4.out (if f.v.c = k then f.v.A else Option.map (fun x => x.add (k * 8)) f.v.A) (f.v.n - k) (f.v.c - k) (vksV (f.X.drop k)) rfl HLd.out (HSa.out _ HC4.out) (zS _) (by unfold maxLen; omega) (by omega) HC4.out.size ?_; intro A6 c6 U5 hown hg hbk; rw [<- xl] at hown; have HC5 := ihq (HC4.out.trans ((Turned.of_grown (p := fun b => (Value.slice A5 (k + 1) c5).ownBlock = some b) hg (fun k e => e)).below (B := w3.heap.size) (fun k e => (P4.out.lt k e).1) HC4.out.size)); obtain ⟨U6, hU6⟩ : ∃ W, U5.setCell ⟨w.heap.size, 1, none⟩ (.slice A6 (k + 1 + (f.v.n - k)) c6) = W := ⟨_, rfl⟩; obtain ⟨r1, r2, r3, r4, r5, r6, r7, r8, r9⟩ := QU HO.out Hbw.out Hsz.out Hs3.out Hc3.out Hr3.out HC5.out hkn hown hU6 Hcp.out n3 n4 n5 n6 Hnd.out Hkl.out Hnx.out Hvl.out; have R5 := ihq r5; have R6 := ihq r6; have R7 := ihq r7; have R8 := ihq r8; have R9 := ihq r9; clear hown hg hbk r5 r6 r7 r8 r9)
     | (at_builtin; refine Zy rfl (.tmp 131) (.tmp 135) _ rfl 49 _ 8 80 Tryz.underlying29 yG rfl (by omega) w3.heap.size A5 (k + 1) c5 (vksV (f.X.take k ++ [⟨c.a, c.b, c.p, 1, Sl.nil, []⟩])) rfl P4.out (Option.map (fun x => x.add (k * 8)) f.v.A) (f.v.n - k) (f.v.c - k) (vksV (f.X.drop k)) rfl HLd.out (HSb.out (by omega) _ HC4.out) (zS _) (by unfold maxLen; omega) (by omega) HC4.out.size ?_; intro A6 c6 U5 hown hg hbk; rw [<- xl] at hown; have HC5 := ihq (HC4.out.trans ((Turned.of_grown (p := fun b => (Value.slice A5 (k + 1) c5).ownBlock = some b) hg (fun k e => e)).below (B := w3.heap.size) (fun k e => (P4.out.lt k e).1) HC4.out.size)); obtain ⟨U6, hU6⟩ : ∃ W, U5.setCell ⟨w.heap.size, 1, none⟩ (.slice A6 (k + 1 + (f.v.n - k)) c6) = W := ⟨_, rfl⟩; obtain ⟨r1, r2, r3, r4, r5, r6, r7, r8, r9⟩ := QU HO.out Hbw.out Hsz.out Hs3.out Hc3.out Hr3.out HC5.out hkn hown hU6 Hcp.out n3 n4 n5 n6 Hnd.out Hkl.out Hnx.out Hvl.out; have R5 := ihq r5; have R6 := ihq r6; have R7 := ihq r7; have R8 := ihq r8; have R9 := ihq r9; clear hown hg hbk r5 r6 r7 r8 r9)
     | (go_at_call 52; refine R9.out.mono ?_; rintro e U7 ⟨f2, rfl, hd2, hok2, ht2⟩; obtain ⟨s1', s2'⟩ := Hsz.out; have hb7 := ht2.heap R5.out (fun e => by rcases e with e | e | e; exact absurd (HO.out.p.lt _ e).2 (by omega); exact R7.out e; exact absurd (HO.out.k.lt _ e).2 (by omega)); obtain ⟨w9, hst, hr9, ht9⟩ := zk hb7 rfl f2.p f2.v f2.k f2.nx; have hst2 : (stRf (.pointer (some ⟨w2.heap.size, 0, none⟩)) f2.val).run Tryz.prog U7 = .ok () w9 := hst; have Hb7 := ihq hb7; have Hr9 := ihq hr9; have Ht9 := ihq ht9; have Hd2 := ihq hd2; have Hok2 := ihq hok2; have Ht2 := ihq ht2; clear hb7 hr9 ht9 hd2 hok2 ht2 s1' s2'))
    all_goals
     refine bodyPost_ret (v := .tuple #[.agg #[.slice f2.p.A f2.p.n f2.p.c, .slice f2.v.A f2.v.n f2.v.c, .slice f2.k.A f2.k.n f2.k.c, .int .i64 f2.nx], .int .i64 0]) (zj rfl _ _ w2.heap.size 32 #[.slice f2.p.A f2.p.n f2.p.c, .slice f2.v.A f2.v.n f2.v.c, .slice f2.k.A f2.k.n f2.k.c, .int .i64 f2.nx] (0, 0) _ (.int .i64 0) rfl rfl Hr9.out Tryz.underlying32 rfl zw) rfl ?_
     have sz := Hsz.out
     have sw := Hbw.out.size
     refine ⟨f2, rfl, ?_, Hok2.out.turnedSt ⟨_, Hb7.out⟩ Ht9.out, ((Turned.of_below (p := RowB f) R6.out).trans Ht2.out (fun _ e => e) (fun b hb e => ?_)).trans Ht9.out (fun _ e => e) (fun b hl e => absurd e (by omega))⟩
     ·rw [Hd2.out, <- HR.out, Hins.out]
     ·rcases e with e | e | e
      ·exact .inl e
      ·have := R8.out b e; omega
      ·exact .inr (.inr e)
end Go.Proofs.YteebkolccbcehaaGreat
