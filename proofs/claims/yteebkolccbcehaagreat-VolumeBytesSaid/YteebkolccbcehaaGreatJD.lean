/-
  Joined: VolFn, VolNum, VolSrv, VolIdx, VolCmp, VolBs. Conditions: each theorem's own.
-/
import Derived.Test.YteebkolccbcehaaGreatJB
import Derived.Test.YteebkolccbcehaaGreatJC
import Derived.Lib.Small
import Derived.Lib.Walk
import Derived.Sort.Grow
import Derived.Deep.RegionHeld3

section
set_option linter.all false
namespace Go.Proofs.YteebkolccbcehaaGreat
open Go.ChangeShapes Go.WideShapes Go.ChangeAt Go.RowKit
theorem Zo (n a b : Int) (w : World) :
  Calls Tryz.prog 74 #[.int .i64 n, .int .i64 a, .int .i64 b] w fun e w' => e = .returned (.bool (decide (a <= n /\ n <= b))) /\ w = w' := by
 by_cases h1 : a <= n
 ·by_cases h2 : n <= b
  ·go_enter Tryz.func74, Tryz.ntmps74
   go_wp2
   go_ret
   exact ⟨yz (by simp <;> omega), rfl⟩
  ·go_enter Tryz.func74, Tryz.ntmps74
   go_wp2
   go_ret
   exact ⟨yz (by simp <;> omega), rfl⟩
 ·go_enter Tryz.func74, Tryz.ntmps74
  go_wp2
  go_ret
  exact ⟨yz (by simp <;> omega), rfl⟩
theorem Vcount (b : Int) (w : World) (h0 : 0 <= b) (h1 : b <= 512) : Calls Tryz.prog 60 #[.int .i64 b] w fun e w' => e = .returned (.int .i64 (zx b)) /\ w = w' := by
 go_enter Tryz.func60, Tryz.ntmps60
 go_wp2
 go_ret
 exact ⟨int_eq (by unfold zx; omega), rfl⟩
theorem YK (b : Int) (w : World) : Calls Tryz.prog 76 #[.int .i64 b] w fun e w' => e = .returned (.bool (areB b)) /\ w = w' := by
 have C := ihq (fun w => Zo b 1 512 w)
 unfold areB
 go_enter Tryz.func76, Tryz.ntmps76
 go_wp2_with (go_at_call 74; refine (C.out _).mono ?_; rintro e w' ⟨rfl, rfl⟩)
 go_ret
 exact ⟨yz (by simp), rfl⟩
theorem cap_eq (b : Int) : yY b [] = decide (1 <= b /\ b <= 64) := by
 have h1 : allP [] = true := rfl
 have h2 : y5 [] = 0 := rfl
 unfold yY
 rw [h1, h2]
 by_cases h : 1 <= b /\ b <= 64
 ·rw [decide_eq_true h, decide_eq_true (show (0 : Int) <= b * 16777216 by omega)]
  rfl
 ·rw [decide_eq_false h]
  rfl
theorem VisCapacity (b : Int) (w : World) (h : In64 b) : Calls Tryz.prog 75 #[.int .i64 b] w fun e w' => e = .returned (.bool (decide (1 <= b /\ b <= 64))) /\ Below w.heap.size w w' := by
 have C := ihq (fun w => Qs b none 0 0 [] w rfl (Nat.zero_le _) (xj.nil w none) h)
 rw [cap_eq] at C
 go_enter Tryz.func75, Tryz.ntmps75
 go_wp2_with (go_at_call 48; refine (C.out _).mono ?_; rintro e w' ⟨rfl, hb⟩; have Hb := ihq hb; clear hb)
 go_ret
 exact ⟨yz (by simp), Hb.out⟩
theorem Q1 (g : Nat) (s : St) (a : Int) (w : World) (h : StAt w g s) : Calls Tryz.prog 84 #[.pointer (some ⟨g, 0, none⟩), .int .i64 a] w fun e w' => e = .returned (.bool (xr s a)) /\ w = w' := by
 obtain ⟨cs, K, X, h⟩ := h
 have C := ihq (fun w => Zo a 0 15 w)
 unfold xr
 by_cases ha : 0 <= a /\ a <= 15
 ·rw [decide_eq_true ha] at C ⊢
  obtain ⟨n, rfl⟩ := Int.eq_ofNat_of_zero_le ha.1
  have hn : n < 16 := by omega
  have c0 : w.cell? ⟨g, n, none⟩ = some (.int .i64 (s.pk n)) := by rw [h.cell]; exact h.pk n hn
  have hn0 : (0 : Int) <= (n : Int) := by omega
  have hn1 : (n : Int) < 16 := by omega
  have et : ((n : Int).toNat) = n := by omega
  rw [et]
  obtain ⟨x, hx⟩ : ∃ x, s.pk n = x := ⟨_, rfl⟩
  rw [hx] at c0 ⊢
  clear ha hx et h
  by_cases hp : 0 < x
  ·have hd : decide (0 < x) = true := decide_eq_true hp
   rw [hd]
   go_enter Tryz.func84, Tryz.ntmps84
   go_wp2_with (go_at_call 74; refine (C.out _).mono ?_; rintro e w' ⟨rfl, rfl⟩)
   go_ret
   exact ⟨rfl, rfl⟩
  ·have hd : decide (0 < x) = false := decide_eq_false hp
   rw [hd]
   go_enter Tryz.func84, Tryz.ntmps84
   go_wp2_with (go_at_call 74; refine (C.out _).mono ?_; rintro e w' ⟨rfl, rfl⟩)
   go_ret
   exact ⟨rfl, rfl⟩
 ·rw [decide_eq_false ha] at C ⊢
  clear ha h
  go_enter Tryz.func84, Tryz.ntmps84
  go_wp2_with (go_at_call 74; refine (C.out _).mono ?_; rintro e w' ⟨rfl, rfl⟩)
  go_ret
  exact ⟨rfl, rfl⟩
theorem Zj (g : Nat) (s : St) (a : Nat) (w : World) (h : StAt w g s) (hv : yB s a = true) :
  Calls Tryz.prog 38 #[.pointer (some ⟨g, 0, none⟩), .int .i64 (a : Int)] w fun e w' => e = .returned (.tuple #[.pointer (some ⟨g, 16 + a * 7, none⟩), .bool true]) /\ w = w' := by
 obtain ⟨cs, K, X, h⟩ := h
 have C := ihq (fun w => Zo a 0 63 w)
 simp only [yB, Bool.and_eq_true, decide_eq_true_eq, Int.toNat_natCast] at hv
 obtain ⟨ha, hb⟩ := hv
 rw [decide_eq_true ha] at C
 have hn : a < 64 := by omega
 have c0 : w.cell? ⟨g, 16 + a * 7, none⟩ = some (.int .i64 (s.vs a).bl) := by rw [h.cell]; exact h.c0 a hn
 have hn0 : (0 : Int) <= (a : Int) := by omega
 have hn1 : (a : Int) < 64 := by omega
 obtain ⟨x, hx⟩ : ∃ x, (s.vs a).bl = x := ⟨_, rfl⟩
 rw [hx] at c0 hb
 have hd : (x == 0) = false := by simpa using hb
 clear ha hx h hb
 go_enter Tryz.func38, Tryz.ntmps38
 go_wp2_with (go_at_call 74; refine (C.out _).mono ?_; rintro e w' ⟨rfl, rfl⟩)
 go_ret2
 exact ⟨rfl, rfl⟩
theorem ZZ (g : Nat) (s : St) (a : Int) (w : World) (h : StAt w g s) (hv : yB s a = false) :
  Calls Tryz.prog 38 #[.pointer (some ⟨g, 0, none⟩), .int .i64 a] w fun e w' => e = .returned (.tuple #[.pointer none, .bool false]) /\ w = w' := by
 obtain ⟨cs, K, X, h⟩ := h
 have C := ihq (fun w => Zo a 0 63 w)
 unfold yB at hv
 by_cases ha : 0 <= a /\ a <= 63
 ·rw [decide_eq_true ha] at C
  obtain ⟨n, rfl⟩ := Int.eq_ofNat_of_zero_le ha.1
  have hn : n < 64 := by omega
  have c0 : w.cell? ⟨g, 16 + n * 7, none⟩ = some (.int .i64 (s.vs n).bl) := by rw [h.cell]; exact h.c0 n hn
  have hn0 : (0 : Int) <= (n : Int) := by omega
  have hn1 : (n : Int) < 64 := by omega
  simp only [decide_eq_true ha, Bool.true_and, decide_eq_false_iff_not, Int.toNat_natCast, ne_eq, Decidable.not_not] at hv
  rw [hv] at c0
  clear ha h hv
  go_enter Tryz.func38, Tryz.ntmps38
  go_wp2_with (go_at_call 74; refine (C.out _).mono ?_; rintro e w' ⟨rfl, rfl⟩)
  go_ret2
  exact ⟨rfl, rfl⟩
 ·rw [decide_eq_false ha] at C
  clear ha h hv
  go_enter Tryz.func38, Tryz.ntmps38
  go_wp2_with (go_at_call 74; refine (C.out _).mono ?_; rintro e w' ⟨rfl, rfl⟩)
  go_ret2
  exact ⟨rfl, rfl⟩
end Go.Proofs.YteebkolccbcehaaGreat
end

section
set_option linter.all false
namespace Go.Proofs.YteebkolccbcehaaGreat
open Go.ChangeShapes Go.WideShapes Go.ChangeAt Go.RowKit
theorem zP : (Tryz.prog.info? 3).map (fun i => (i.zero, i.size, i.bytes)) = some (some (.int .i64 0), 1, 8) := by kernel_rfl
section
variable {P : Program} {w : World}
theorem Zz {ops : Array Oper} {rest : List Oper} {o : Oper} {a : Act} {Q : Exit -> Act -> World -> Prop} (hgd : o.guard = none) (s x : Operand) (t : TypeId)
  (ho : o.op = .call { callee := .builtin .append, args := #[s, x], argTypes := #[t, t] })
  (e : TypeId) (z : Value) (size bytes : Nat) (ht : P.underlying t = some (.slice e)) (hinfo : (P.info? e).map (fun i => (i.zero, i.size, i.bytes)) = some (some z, size, bytes)) (hz1 : z.cells.size = size) (hsz : 0 < size)
  (base : Nat) (A : Option Addr) (n c : Nat) (xs : List Value) (hs : a.eval s = .slice A n c) (hown : w.ownsRow base e size (.slice A n c) n xs)
  (g2 o2 m c2 : Nat) (news : List Value) (hx : a.eval x = .slice (some ⟨g2, o2, none⟩) m c2) (hm : news.length = m * size) (hsee : Seen w (some ⟨g2, o2, none⟩) news) (h1 : ∀ u ∈ news, u.oneCell' = true)
  (h63 : n + m <= maxLen) (hbytes : (n + m) * bytes <= 140737488355328) (hbase : base <= w.heap.size)
  (h : ∀ A' c' w', w'.ownsRow base e size (.slice A' (n + m) c') (n + m) (xs ++ news) -> w.grownBy w' (Value.slice A n c).ownBlock -> (∀ k, (Value.slice A' (n + m) c').ownBlock = some k -> (Value.slice A n c).ownBlock = some k \/ k = w.heap.size) ->
   wpList P ops Q rest (a.put o.dst (.slice A' (n + m) c')) w') : wpList P ops Q (o :: rest) a w :=
 wpList_plain hgd fun K hK => by
  obtain ⟨i, hi, hz, hss, hb⟩ := info_parts hinfo
  have hcells : ∀ (j : Nat) u, news[j]? = some u -> w.cell? ((⟨g2, o2, none⟩ : Addr).add j) = some u := by
   intro j u hu
   rcases hsee with rfl | ⟨g, o, hA, hc⟩
   ·simp at hu
   ·injection hA with hA
    rw [hA, Addr.add_lit]
    exact hc j u hu
  obtain ⟨v', w', hrun, hown', hg, _, hblk⟩ := run_append_own_at (P := P) w base t o.type e i z size bytes ht hi hz hss hb hz1 hsz _ n xs hown ⟨g2, o2, none⟩ m c2 news hm hcells h1 h63 hbytes hbase
  obtain ⟨A', c', rfl⟩ := Xi hown'
  unfold Oper.wp execOp
  simp only [ho, resolve, invoke, builtin, Sem.run_bind, Sem.run_pure, Result.andThen_ok, List.map_toArray, List.map_cons, List.map_nil, hs, hx, hrun]
  refine hK _ _ (h A' c' w' hown' hg fun k hk => ?_)
  rcases hblk with h | h
  ·exact .inl (by rw [<- h]; exact hk)
  ·rw [h] at hk
   injection hk with hk
   exact .inr hk.symm
end
def idsK (l : List Chk) : List Int := l.map (·.id)
theorem idsK_more {l : List Ck} {i : Nat} {k : Ck} (h : l[i]? = some k) : idsK ((l.take (i + 1)).map Ck.dat) = idsK ((l.take i).map Ck.dat) ++ [k.id] := by
 obtain ⟨hk, rfl⟩ := List.getElem?_eq_some_iff.1 h
 unfold idsK
 rw [List.take_succ_eq_append_getElem hk, List.map_append, List.map_append]
 rfl
attribute [local go_sem ↓] yd
set_option maxRecDepth 100000 in
set_option maxHeartbeats 1000000 in
theorem Vnumbers_at (g q : Nat) (S : Sl) (X : List Ck) (w : World) (hc : w.cell? ⟨g, q + 6, none⟩ = some (.slice S.A S.n S.c)) (hk : KsT w S X) (hl : X.length <= 64) :
  Calls Tryz.prog 39 #[.pointer (some ⟨g, q, none⟩)] w (Zd 3 (zo (idsK (X.map Ck.dat))) w) := by
 obtain ⟨A0, n, c0⟩ := S
 simp only at hc
 have hlen := hk.len
 simp only at hlen
 have Hk := ihq hk; have Hn := ihq hlen
 have hn6 : n <= 64 := by omega
 clear hk hlen hl
 go_enter Tryz.func39, Tryz.ntmps39
 go_wp2
 go_loopw [3, 11] (fun sv iv wr => ∃ (i : Nat) (A' : Option Addr) (c' : Nat), i <= n /\ iv = .int .i64 (i : Int) /\ sv = .slice A' i c' /\ wr.ownsRow w.heap.size 3 1 (.slice A' i c') i (zo (idsK ((X.take i).map Ck.dat))) /\ Below w.heap.size w wr) (fun _ iv _ => n - (intOf iv).toNat)
 case atStart => exact ⟨0, _, _, by omega, rfl, rfl, World.ownsRow_nil _ _ _ _, Below.refl _ _⟩
 case round =>
  obtain ⟨i, A', c', hin, rfl, rfl, ho, hb⟩ := hrel
  by_cases hi : i < n
  ·obtain ⟨k, hx⟩ : ∃ r, X[i]? = some r := ⟨_, List.getElem?_eq_getElem (by have := Hn.out; omega)⟩
   obtain ⟨g1, o1, hA, hat⟩ := (Hk.out.below hb).get hx
   simp only at hA
   subst hA
   have hld := zC hat
   obtain ⟨Wa, hWa, hba, hrow⟩ := Zc wr k
   have d0 : Wa.cell? ⟨wr.heap.size, 0, none⟩ = some (.int .i64 k.id) := zc hrow 0
   obtain ⟨Wb, hWb⟩ : ∃ Wb, Wa.alloc (.cells #[.int .i64 k.id] 3) = Wb := ⟨_, rfl⟩
   have hbb : Below wr.heap.size wr Wb := by rw [<- hWb]; exact hba.trans (((Below.refl _ _).alloc (Nat.le_refl _) _).mono hba.size)
   have hsb : Seen Wb (some ⟨Wa.heap.size, 0, none⟩) [.int .i64 k.id] := by rw [<- hWb]; exact Seen.of_cells (heap_alloc_new Wa _)
   have Ho := ihq (zh ho hbb); have Hb := ihq (hb.trans (hbb.mono hb.size)); have Hsb := ihq hsb; have Hx := ihq hx
   have i0 : (0 : Int) <= (i : Int) := by omega
   have i1 : (i : Int) < (n : Int) := by omega
   clear ho hb hba hbb hsb hx hat hrow
   go_wp2_with (at_builtin; refine ym rfl (.tmp 15) (.tmp 18) _ rfl 3 _ 8 Tryz.underlying28 zP rfl w.heap.size A' i c' (zo (idsK ((X.take i).map Ck.dat))) rfl Ho.out (some ⟨Wa.heap.size, 0, none⟩) 1 1 [.int .i64 k.id] rfl rfl Hsb.out (fun u hu => by simp at hu; subst hu; rfl) (by unfold maxLen; omega) (by omega) Hb.out.size ?_; intro A4 c4 w4 hown4 hg4 hbk4; have Hown4 := ihq hown4; have Hg4 := ihq hg4; clear hown4 hg4 hbk4)
   go_roundw
   case rel =>
    have tg : Turned (fun k => (Value.slice A' i c').ownBlock = some k) Wb w4 := Turned.of_grown Hg4.out fun k e => e
    refine ⟨i + 1, A4, c4, by omega, by go_num, rfl, ?_, ?_⟩
    ·have := Hown4.out
     rw [idsK_more Hx.out, zW]
     exact this
    ·exact Hb.out.trans (tg.below (fun k e => (Ho.out.lt k e).1) Hb.out.size)
   case measure => simp [intOf]; omega
  ·obtain rfl : i = n := by omega
   have i1 : ¬ (i : Int) < (i : Int) := by omega
   have hty : X.take i = X := List.take_of_length_le (by rw [Hn.out]; exact Nat.le_refl _)
   rw [hty] at ho
   have Ho := ihq ho; have Hb := ihq hb
   clear ho hb hty
   go_wp2
   go_ret
   have el : (zo (idsK (X.map Ck.dat))).length = i := by simp [zo, idsK, Hn.out]
   unfold Zd
   rw [el]
   exact ⟨A', c', rfl, Ho.out, Hb.out⟩
theorem Vnumbers (g i : Nat) (s : St) (w : World) (h : StAt w g s) (hi : i < 64) (hl : (s.vs i).ks.length <= 64) :
  Calls Tryz.prog 39 #[.pointer (some ⟨g, 16 + i * 7, none⟩)] w (Zd 3 (zo (idsK (s.vs i).ks)) w) := by
 obtain ⟨cs, K, X, h⟩ := h
 have := Vnumbers_at g (16 + i * 7) (K i) (X i) w (by rw [h.cell]; exact h.c6 i hi) (h.ks i hi) (by have := h.dat i hi; rw [<- this] at hl; simpa using hl)
 rwa [h.dat i hi] at this
end Go.Proofs.YteebkolccbcehaaGreat
end

section
set_option linter.all false
namespace Go.Proofs.YteebkolccbcehaaGreat
open Go.ChangeShapes Go.WideShapes Go.ChangeAt Go.RowKit
def Zp (e : TypeId) (size n : Nat) (xs : List Value) (w : World) (en : Ending) (w' : World) : Prop :=
 ∃ A c, en = .returned (.slice A n c) /\ w'.ownsRow w.heap.size e size (.slice A n c) n xs /\ Below w.heap.size w w'
def pkL (s : St) : List Value := (List.range 16).map fun i => .int .i64 (s.pk i)
theorem pkL_get (s : St) {i : Nat} (hi : i < 16) : (pkL s)[i]? = some (.int .i64 (s.pk i)) := by
 unfold pkL
 rw [List.getElem?_map, List.getElem?_range hi]
 rfl
theorem XU (s : St) : (pkL s).length = 16 := by simp [pkL]
theorem XL : (Tryz.prog.info? 52).map (·.size) = some 16 := by kernel_rfl
def pkA (s : St) : Array Value := (pkL s).toArray
def ldPk (p : Value) : Sem Value := Instr.loadAt 52 p
theorem ldPk_eq (p : Value) : Instr.loadAt 52 p = ldPk p := rfl
theorem ldPk_run {w : World} {g : Nat} {cs : Array Value} {s : St} {K : Nat -> Sl} {X : Nat -> List Ck} (h : StC w g cs s K X) : (ldPk (.pointer (some ⟨g, 0, none⟩))).run Tryz.prog w = .ok (.agg (pkA s)) w := by
 have hr : w.rangeAt g 0 (pkL s) := fun j v hv => by
  have hj : j < 16 := by have := (List.getElem?_eq_some_iff.1 hv).1; rwa [XU] at this
  rw [pkL_get s hj] at hv
  rw [Nat.zero_add, h.cell, h.pk j hj]
  exact hv
 exact run_loadAt_mid w g 0 52 (pkL s) _ hr Tryz.underlying52 rfl (by rw [XU]; exact XL)
theorem ix_run {cs : Array Value} {i : Nat} {x : Int} (hi : i < 16) (hx : cs[i]? = some (.int .i64 x)) (w : World) : (Instr.index 52 (.agg cs) (.int .i64 (i : Int))).run Tryz.prog w = .ok (.int .i64 x) w := by
 have h1 : (0 : Int) <= (i : Int) /\ (i : Int) < 16 := by omega
 have z : (Go.sizeOf 3).run Tryz.prog w = .ok 1 w := by kernel_rfl
 have hn : ¬ 16 <= i := by omega
 simp [Instr.index, run_underlying Tryz.underlying52, asIntOf, part, h1, hx, z, hi, go_sem]
def srvL (pk : Nat -> Int) (n : Nat) : List Nat := (List.range n).filter fun i => decide (0 < pk i)
theorem srvL_yes {pk : Nat -> Int} {n : Nat} (h : 0 < pk n) : srvL pk (n + 1) = srvL pk n ++ [n] := by simp [srvL, List.range_succ, h]
theorem srvL_no {pk : Nat -> Int} {n : Nat} (h : ¬ 0 < pk n) : srvL pk (n + 1) = srvL pk n := by
 unfold srvL
 rw [List.range_succ, List.filter_append]
 simp [h]
theorem xM (pk : Nat -> Int) (n : Nat) : (srvL pk n).length <= n := by
 have := List.length_filter_le (fun i => decide (0 < pk i)) (List.range n)
 simpa [srvL] using this
def ZI (pk : Nat -> Int) (l : List Nat) : List Value := l.flatMap fun (i : Nat) => [.int .i64 (i : Int), .int .i64 (pk i)]
theorem Qw (pk : Nat -> Int) (a b : List Nat) : ZI pk (a ++ b) = ZI pk a ++ ZI pk b := by simp [ZI]
theorem Za (pk : Nat -> Int) : ∀ {l : List Nat} {i : Nat} {p : Nat}, l[i]? = some p -> (ZI pk l)[i * 2]? = some (.int .i64 (p : Int)) /\ (ZI pk l)[i * 2 + 1]? = some (.int .i64 (pk p))
 | [], _, _, h => by simp at h
 | q :: r, 0, p, h => by
  simp at h
  subst h
  exact ⟨rfl, rfl⟩
 | q :: r, i + 1, p, h => by
  have := Za pk (l := r) (i := i) (p := p) (by simpa using h)
  have e1 : (i + 1) * 2 = (i * 2) + 1 + 1 := by omega
  rw [e1]
  exact this
theorem load_info : (Tryz.prog.info? 75).map (fun i => (i.zero, i.size, i.bytes)) = some (some (.agg #[.int .i64 0, .int .i64 0]), 2, 16) := by kernel_rfl
attribute [local go_sem ↓] ldPk_eq
set_option maxRecDepth 100000 in
set_option maxHeartbeats 1000000 in
theorem Zk (g : Nat) (s : St) (w : World) (h : StAt w g s) :
  Calls Tryz.prog 27 #[.pointer (some ⟨g, 0, none⟩)] w (Zp 75 2 (zm s.pk).length (ZI s.pk (zm s.pk)) w) := by
 obtain ⟨cs, K, X, h⟩ := h
 have hld := ldPk_run h
 have hix := fun i hi W => ix_run (cs := pkA s) (i := i) (x := s.pk i) hi (by unfold pkA; rw [List.getElem?_toArray]; exact pkL_get s hi) W
 have HX := ihq hix
 clear h hix
 go_enter Tryz.func27, Tryz.ntmps27
 go_wp2
 go_loopw [3, 10] (fun sv iv wr => ∃ (i : Nat) (A' : Option Addr) (c' : Nat), i <= 16 /\ iv = .int .i64 (i : Int) /\ sv = .slice A' (srvL s.pk i).length c' /\ wr.ownsRow w.heap.size 75 2 (.slice A' (srvL s.pk i).length c') (srvL s.pk i).length (ZI s.pk (srvL s.pk i)) /\ Below w.heap.size w wr) (fun _ iv _ => 16 - (intOf iv).toNat)
 case atStart => exact ⟨0, _, _, by omega, rfl, rfl, World.ownsRow_nil _ _ _ _, Below.refl _ _⟩
 case round =>
  obtain ⟨i, A', c', hin, rfl, rfl, ho, hb⟩ := hrel
  by_cases hi : i < 16
  ·have hxi := HX.out i hi
   obtain ⟨n, hn⟩ : ∃ n, (srvL s.pk i).length = n := ⟨_, rfl⟩
   have hn6 : n <= 16 := by have := xM s.pk i; omega
   rw [hn] at ho
   have i0 : (0 : Int) <= (i : Int) := by omega
   have i1 : (i : Int) < 16 := by omega
   obtain ⟨x, hx⟩ : ∃ x, s.pk i = x := ⟨_, rfl⟩
   by_cases hp : 0 < s.pk i
   ·have hs := srvL_yes hp
    rw [hx] at hxi hp
    obtain ⟨Wb, hWb⟩ : ∃ Wb, wr.alloc (.cells #[.int .i64 (i : Int), .int .i64 x] 75) = Wb := ⟨_, rfl⟩
    have hbb : Below wr.heap.size wr Wb := by rw [<- hWb]; exact zg _ _
    have hsb : Seen Wb (some ⟨wr.heap.size, 0, none⟩) [.int .i64 (i : Int), .int .i64 x] := by rw [<- hWb]; exact Seen.of_cells (heap_alloc_new wr _)
    have Ho := ihq (zh ho hbb); have Hb := ihq (hb.trans (hbb.mono hb.size)); have Hsb := ihq hsb; have Hs := ihq hs; have Hn := ihq hn; have Hx := ihq hx
    clear ho hb hbb hsb hs hx
    rw [hn]
    clear hn
    go_wp2_with (at_builtin; refine Zz rfl (.tmp 16) (.tmp 20) _ rfl 75 _ 2 16 Tryz.underlying72 load_info rfl (by omega) w.heap.size A' n c' (ZI s.pk (srvL s.pk i)) rfl Ho.out wr.heap.size 0 1 1 [.int .i64 (i : Int), .int .i64 x] rfl rfl Hsb.out (fun u hu => by simp at hu; rcases hu with rfl | rfl <;> rfl) (by unfold maxLen; omega) (by omega) Hb.out.size ?_; intro A4 c4 w4 hown4 hg4 hbk4; have Hown4 := ihq hown4; have Hg4 := ihq hg4; clear hown4 hg4 hbk4)
    go_roundw
    case rel =>
     have tg : Turned (fun k => (Value.slice A' n c').ownBlock = some k) Wb w4 := Turned.of_grown Hg4.out fun k e => e
     have el : (srvL s.pk (i + 1)).length = n + 1 := by rw [Hs.out, List.length_append, Hn.out]; rfl
     refine ⟨i + 1, A4, c4, by omega, by go_num, by rw [el], ?_, ?_⟩
     ·have := Hown4.out
      rw [el, Hs.out, Qw]
      rw [<- Hx.out] at this
      exact this
     ·exact Hb.out.trans (tg.below (fun k e => (Ho.out.lt k e).1) Hb.out.size)
    case measure => simp [intOf]; omega
   ·have hs := srvL_no hp
    rw [hx] at hxi hp
    have Ho := ihq ho; have Hb := ihq hb; have Hs := ihq hs; have Hn := ihq hn
    clear ho hb hs hx
    rw [hn]
    clear hn
    go_wp2
    go_roundw
    case rel => exact ⟨i + 1, A', c', by omega, by go_num, by rw [Hs.out, Hn.out], by rw [Hs.out, Hn.out]; exact Ho.out, Hb.out⟩
    case measure => simp [intOf]; omega
  ·obtain rfl : i = 16 := by omega
   have i1 : ¬ ((16 : Nat) : Int) < 16 := by omega
   obtain ⟨n, hn⟩ : ∃ n, (srvL s.pk 16).length = n := ⟨_, rfl⟩
   rw [hn] at ho ⊢
   have Ho := ihq ho; have Hb := ihq hb; have Hn := ihq hn
   clear ho hb hn
   go_wp2
   go_ret
   refine ⟨A', c', ?_, ?_, Hb.out⟩
   ·show _ = Ending.returned (.slice A' (srvL s.pk 16).length c')
    rw [Hn.out]; rfl
   ·show World.ownsRow _ _ _ _ (.slice A' (srvL s.pk 16).length c') (srvL s.pk 16).length _
    rw [Hn.out]
    exact Ho.out
end Go.Proofs.YteebkolccbcehaaGreat
end

section
set_option linter.all false
namespace Go.Proofs.YteebkolccbcehaaGreat
open Go.ChangeShapes Go.WideShapes Go.ChangeAt Go.RowKit
def ckA (k : Ck) : Value := .agg #[.int .i64 k.id, .int .i64 k.vo, .int .i64 k.ep, .slice k.m.A k.m.n k.m.c, .slice k.j.A k.j.n k.j.c]
def PredK (fn : Nat) (lb : Array Value) (p : Chk -> Bool) (X : List Ck) (w : World) : Prop :=
 ∀ W k, Below w.heap.size w W -> k ∈ X -> Calls Tryz.prog fn (#[ckA k] ++ lb) W fun e W' => e = .returned (.bool (p k.dat)) /\ Below W.heap.size W W'
def IxRet (p : Chk -> Bool) (X : List Ck) (w : World) (e : Ending) (w' : World) : Prop :=
 ∃ i : Int, e = .returned (.int .i64 i) /\ (0 <= i ↔ (X.map Ck.dat).any p = true) /\ -1 <= i /\ i <= 1000 /\ Below w.heap.size w w'
attribute [local go_sem ↓] yd
set_option maxRecDepth 100000 in
set_option maxHeartbeats 1000000 in
theorem VIndexFunc (S : Sl) (X : List Ck) (fn : Nat) (a0 : Value) (p : Chk -> Bool) (w : World) (h : KsT w S X) (hl : X.length <= 64) (hp : PredK fn #[a0] p X w) (eg : ∀ args w, (callFunc fn args).run Tryz.prog w = .ok (.enter fn args) w) :
  Calls Tryz.prog 105 #[.slice S.A S.n S.c, .func (.func fn) #[] #[a0]] w (IxRet p X w) := by
 obtain ⟨A0, n, c0⟩ := S
 have hlen := h.len
 simp only at hlen ⊢
 have Hk := ihq h; have Hn := ihq hlen; have Hp := ihq hp
 have hn6 : n <= 64 := by omega
 clear h hlen hl hp
 go_enter Tryz.func105, Tryz.ntmps105
 go_wp2
 go_loopw [8] (fun iv wr => ∃ i : Nat, i <= n /\ iv = .int .i64 (i : Int) /\ ((X.take i).map Ck.dat).any p = false /\ Below w.heap.size w wr) (fun iv _ => n - (intOf iv).toNat)
 case atStart => exact ⟨0, by omega, rfl, rfl, Below.refl _ _⟩
 case round =>
  obtain ⟨i, hin, rfl, hno, hb⟩ := hrel
  by_cases hi : i < n
  ·obtain ⟨k, hx⟩ : ∃ r, X[i]? = some r := ⟨_, List.getElem?_eq_getElem (by have := Hn.out; omega)⟩
   obtain ⟨g1, o1, hA, hat⟩ := (Hk.out.below hb).get hx
   simp only at hA
   subst hA
   have hld := zC hat
   have i0 : (0 : Int) <= (i : Int) := by omega
   have i1 : (i : Int) < (n : Int) := by omega
   have C := ihq (Hp.out wr k hb (List.mem_of_getElem? hx))
   have htk : X.take (i + 1) = X.take i ++ [k] := by
    obtain ⟨h1, h2⟩ := List.getElem?_eq_some_iff.1 hx
    rw [List.take_succ_eq_append_getElem h1, h2]
   obtain ⟨b, hb0⟩ : ∃ b, p k.dat = b := ⟨_, rfl⟩
   rw [hb0] at C
   have Hb := ihq hb; have Hno := ihq hno; have Htk := ihq htk; have Hb0 := ihq hb0; have Hm := ihq (List.mem_of_getElem? hx)
   clear hb hno htk hb0 hx hat
   cases b with
   | true =>
    go_wp2_with (refine C.out.mono ?_; rintro e w' ⟨rfl, hb3⟩; have Hb3 := ihq (Hb.out.trans (hb3.mono Hb.out.size)); clear hb3)
    go_ret
    refine ⟨(i : Int), rfl, ⟨fun _ => ?_, fun _ => i0⟩, by omega, by omega, Hb3.out⟩
    rw [List.any_eq_true]
    exact ⟨k.dat, List.mem_map.2 ⟨k, Hm.out, rfl⟩, Hb0.out⟩
   | false =>
    go_wp2_with (refine C.out.mono ?_; rintro e w' ⟨rfl, hb3⟩; have Hb3 := ihq (Hb.out.trans (hb3.mono Hb.out.size)); clear hb3)
    go_roundw
    case rel => exact ⟨i + 1, by omega, by go_num, by rw [Htk.out, List.map_append, List.any_append, Hno.out]; simp [Hb0.out], Hb3.out⟩
    case measure => simp [intOf]; omega
  ·obtain rfl : i = n := by omega
   have i1 : ¬ (i : Int) < (i : Int) := by omega
   have hty : X.take i = X := List.take_of_length_le (by rw [Hn.out]; exact Nat.le_refl _)
   rw [hty] at hno
   have Hno := ihq hno; have Hb := ihq hb
   clear hno hb hty
   go_wp2
   go_ret
   exact ⟨-1, rfl, ⟨fun h => by omega, fun h => by rw [Hno.out] at h; cases h⟩, by omega, by omega, Hb.out⟩
set_option maxRecDepth 100000 in
set_option maxHeartbeats 1000000 in
theorem Qx (S : Sl) (X : List Ck) (fn : Nat) (a0 : Value) (p : Chk -> Bool) (w : World) (h : KsT w S X) (hl : X.length <= 64) (hp : PredK fn #[a0] p X w) (eg : ∀ args w, (callFunc fn args).run Tryz.prog w = .ok (.enter fn args) w) :
  Calls Tryz.prog 70 #[.slice S.A S.n S.c, .func (.func fn) #[] #[a0]] w fun e w' => e = .returned (.bool ((X.map Ck.dat).any p)) /\ Below w.heap.size w w' := by
 have C := ihq (VIndexFunc S X fn a0 p w h hl hp eg)
 clear h hl hp
 obtain ⟨b, hb⟩ : ∃ b, (X.map Ck.dat).any p = b := ⟨_, rfl⟩
 have Hb := ihq hb
 rw [hb]
 clear hb
 go_enter Tryz.func70, Tryz.ntmps70
 go_wp2_with (go_at_call 105; refine C.out.mono ?_; rintro e w' ⟨i, rfl, hi, h1, h2, hb3⟩; have Hi := ihq hi; have Hb3 := ihq hb3; clear hi hb3)
 go_ret
 refine ⟨yz ?_, Hb3.out⟩
 have := Hi.out
 rw [Hb.out] at this
 rw [Bool.eq_iff_iff, decide_eq_true_eq]
 exact this
end Go.Proofs.YteebkolccbcehaaGreat
end

section
set_option linter.all false
namespace Go.Proofs.YteebkolccbcehaaGreat
open Go.ChangeShapes Go.WideShapes Go.ChangeAt Go.RowKit Go.Sort
theorem i64_eq {a b : Int} (h : a = b) : Ending.returned (.int .i64 a) = Ending.returned (.int .i64 b) := by rw [h]
theorem isNaN_any (x : Int) (w : World) : Calls Tryz.prog 130 #[.int .i64 x] w fun e w' => e = .returned (.bool false) /\ w = w' := by
 go_enter Tryz.func130, Tryz.ntmps130
 go_wp2
 go_ret
 exact ⟨by simp, rfl⟩
theorem Yl (x y : Int) (w : World) : Calls Tryz.prog 104 #[.int .i64 x, .int .i64 y] w fun e w' => e = .returned (.int .i64 (Lib.compareInt x y)) /\ w = w' := by
 go_enter Tryz.func104, Tryz.ntmps104
 go_wp2_with (go_at_call 130; refine (isNaN_any _ _).mono ?_; rintro e w' ⟨rfl, rfl⟩)
 all_goals (go_ret; refine ⟨?_, rfl⟩; unfold Lib.compareInt; (repeat' split) <;> first | rfl | (exfalso; omega))
theorem Or_two (a b : Int) (g : Nat) (w : World) (h0 : w.cell? ⟨g, 0, none⟩ = some (.int .i64 a)) (h1 : w.cell? ⟨g, 1, none⟩ = some (.int .i64 b)) :
  Calls Tryz.prog 133 #[.slice (some ⟨g, 0, none⟩) 2 2] w fun e w' => e = .returned (.int .i64 (if a = 0 then b else a)) /\ w = w' := by
 have H0 := ihq h0; have H1 := ihq h1
 clear h0 h1
 go_enter Tryz.func133, Tryz.ntmps133
 go_wp2
 go_loopw [8] (fun iv wr => ∃ i : Nat, i <= 2 /\ iv = .int .i64 (i : Int) /\ (1 <= i -> a = 0) /\ (2 <= i -> b = 0) /\ wr = w) (fun iv _ => 2 - (intOf iv).toNat)
 case atStart => exact ⟨0, by omega, rfl, fun h => by omega, fun h => by omega, rfl⟩
 case round =>
  obtain ⟨i, hi, rfl, ha, hb, rfl⟩ := hrel
  rcases (by omega : i = 0 \/ i = 1 \/ i = 2) with rfl | rfl | rfl
  ·have h0 := H0.out
   clear ha hb
   by_cases hz : a = 0
   ·have hq : (a != 0) = false := by simp [hz]
    have Hz := ihq hz
    clear hz
    go_wp2
    go_roundw
    case rel => exact ⟨1, by omega, by go_num, fun _ => Hz.out, fun h => by omega, trivial⟩
    case measure => simp [intOf]
   ·have hq : (a != 0) = true := by simp [hz]
    have Hz := ihq hz
    clear hz
    go_wp2
    go_ret
    exact ⟨i64_eq rfl, rfl⟩
  ·have h1 := H1.out
   have Ha := ihq (ha (by omega))
   clear ha hb
   by_cases hz : b = 0
   ·have hq : (b != 0) = false := by simp [hz]
    have Hz := ihq hz
    clear hz
    go_wp2
    go_roundw
    case rel => exact ⟨2, by omega, by go_num, fun _ => Ha.out, fun _ => Hz.out, trivial⟩
    case measure => simp [intOf]
   ·have hq : (b != 0) = true := by simp [hz]
    have Hz := ihq hz
    clear hz
    go_wp2
    go_ret
    exact ⟨i64_eq rfl, rfl⟩
  ·have Ha := ihq (ha (by omega)); have Hb := ihq (hb (by omega))
   clear ha hb
   go_wp2
   go_ret
   exact ⟨i64_eq Hb.out.symm, rfl⟩
end Go.Proofs.YteebkolccbcehaaGreat
end

section
set_option linter.all false
namespace Go.Proofs.YteebkolccbcehaaGreat
open Go.ChangeShapes Go.WideShapes Go.ChangeAt Go.RowKit
set_option maxRecDepth 100000 in
theorem VfindCmp (k : Ck) (x : Int) (w : World) : Calls Tryz.prog 103 #[ckA k, .int .i64 x] w fun e w' => e = .returned (.int .i64 (Lib.compareInt k.id x)) /\ Below w.heap.size w w' := by
 unfold ckA
 have Hb := ihq (zg w (.cells #[.int .i64 k.id, .int .i64 k.vo, .int .i64 k.ep, .slice k.m.A k.m.n k.m.c, .slice k.j.A k.j.n k.j.c] 82))
 go_enter Tryz.func103, Tryz.ntmps103
 go_wp2_with (go_at_call 104; refine (Yl _ _ _).mono ?_; rintro e w' ⟨rfl, rfl⟩)
 go_ret
 exact ⟨rfl, Hb.out⟩
def Zl (X : List Chk) : Prop := X.Pairwise fun a b => a.id < b.id
def BsRet (X : List Chk) (x : Int) (w : World) (e : Ending) (w' : World) : Prop :=
 ∃ (i : Nat) (b : Bool), e = .returned (.tuple #[.int .i64 (i : Int), .bool b]) /\ i <= X.length /\ (b = true -> ∃ k, X[i]? = some k /\ k.id = x) /\ (b = false -> ∀ k ∈ X, k.id ≠ x) /\ Below w.heap.size w w'
attribute [local go_sem ↓] yd
set_option maxRecDepth 100000 in
set_option maxHeartbeats 2000000 in
theorem VBs (S : Sl) (X : List Ck) (x : Int) (w : World) (h : KsT w S X) (hl : X.length <= 64) (hr : Zl (X.map Ck.dat)) :
  Calls Tryz.prog 102 #[.slice S.A S.n S.c, .int .i64 x, .func (.func 103) #[] #[]] w (BsRet (X.map Ck.dat) x w) := by
 obtain ⟨A0, n, c0⟩ := S
 have hlen := h.len
 simp only at hlen ⊢
 have Hk := ihq h; have Hn := ihq hlen; have Hr := ihq hr
 have hn6 : n <= 64 := by omega
 clear h hlen hl hr
 go_enter Tryz.func102, Tryz.ntmps102
 go_wp2
 go_loopw [9, 10] (fun iv jv wr => ∃ i j : Nat, i <= j /\ j <= n /\ iv = .int .i64 (i : Int) /\ jv = .int .i64 (j : Int) /\ (∀ (q : Nat) (k : Ck), X[q]? = some k -> q < i -> k.id < x) /\ (∀ (q : Nat) (k : Ck), X[q]? = some k -> j <= q -> x <= k.id) /\ Below w.heap.size w wr) (fun iv jv _ => (intOf jv).toNat - (intOf iv).toNat)
 case atStart => exact ⟨0, n, by omega, by omega, rfl, rfl, fun q k hq h => by omega, fun q k hq h => by have := (List.getElem?_eq_some_iff.1 hq).1; have := Hn.out; omega, Below.refl _ _⟩
 case round =>
  obtain ⟨i, j, hij, hjn, rfl, rfl, hlo, hhi, hb⟩ := hrel
  by_cases hi : i < j
  ·obtain ⟨h, hh⟩ : ∃ h : Nat, ((i : Int) + (j : Int)) / 2 = (h : Int) := ⟨(i + j) / 2, by omega⟩
   have hh1 : i <= h := by omega
   have hh2 : h < j := by omega
   obtain ⟨k, hx⟩ : ∃ r, X[h]? = some r := ⟨_, List.getElem?_eq_getElem (by have := Hn.out; omega)⟩
   obtain ⟨g1, o1, hA, hat⟩ := (Hk.out.below hb).get hx
   simp only at hA
   subst hA
   have hld := zC hat
   have i0 : (0 : Int) <= (h : Int) := by omega
   have i1 : (h : Int) < (n : Int) := by omega
   have C := ihq (fun W => VfindCmp k x W)
   have Hb := ihq hb; have Hlo := ihq hlo; have Hhi := ihq hhi; have Hx := ihq hx
   have key : ∀ (q : Nat) (k' : Ck), X[q]? = some k' -> (q < h -> k'.id < k.id) /\ (h < q -> k.id < k'.id) := fun q k' hq => by
    have hp := List.pairwise_iff_getElem.1 (show (X.map Ck.dat).Pairwise fun a b => a.id < b.id from Hr.out)
    obtain ⟨q1, rfl⟩ := List.getElem?_eq_some_iff.1 hq
    obtain ⟨h1, rfl⟩ := List.getElem?_eq_some_iff.1 Hx.out
    refine ⟨fun hlt => ?_, fun hlt => ?_⟩
    ·have := hp q h (by simpa using q1) (by simpa using h1) hlt
     simpa [Ck.dat] using this
    ·have := hp h q (by simpa using h1) (by simpa using q1) hlt
     simpa [Ck.dat] using this
   have Key := ihq key
   clear hb hlo hhi hx hat key
   by_cases hc : k.id < x
   ·have hcmp : Lib.compareInt k.id x = -1 := by unfold Lib.compareInt; rw [if_pos hc]
    rw [hcmp] at C
    clear hcmp
    unfold ckA at C
    have Hc := ihq hc
    clear hc
    go_wp2_with (go_at_call 103; refine (C.out _).mono ?_; rintro e w' ⟨rfl, hb3⟩; have Hb3 := ihq (Hb.out.trans (hb3.mono Hb.out.size)); clear hb3)
    go_roundw
    case rel =>
     refine ⟨h + 1, j, by omega, by omega, by go_num, rfl, fun q k' hq hlt => ?_, Hhi.out, Hb3.out⟩
     rcases (by omega : q < h \/ q = h) with h3 | h3
     ·have := (Key.out q k' hq).1 h3; have := Hc.out; omega
     ·subst h3
      have := Hx.out
      rw [this] at hq
      injection hq with hq
      subst hq
      exact Hc.out
    case measure => simp [intOf]; omega
   ·have hcmp : ∃ z : Int, 0 <= z /\ Lib.compareInt k.id x = z := by
     unfold Lib.compareInt
     rw [if_neg hc]
     split
     ·exact ⟨_, by omega, rfl⟩
     ·exact ⟨_, by omega, rfl⟩
    obtain ⟨z, hz, hcmp⟩ := hcmp
    rw [hcmp] at C
    clear hcmp
    unfold ckA at C
    have Hc := ihq hc
    clear hc
    have hz' : ¬ z < 0 := by omega
    go_wp2_with (go_at_call 103; refine (C.out _).mono ?_; rintro e w' ⟨rfl, hb3⟩; have Hb3 := ihq (Hb.out.trans (hb3.mono Hb.out.size)); clear hb3)
    go_roundw
    case rel =>
     refine ⟨i, h, by omega, by omega, rfl, rfl, Hlo.out, fun q k' hq hle => ?_, Hb3.out⟩
     rcases (by omega : h < q \/ q = h) with h3 | h3
     ·have := (Key.out q k' hq).2 h3; have := Hc.out; omega
     ·subst h3
      have := Hx.out
      rw [this] at hq
      injection hq with hq
      subst hq
      have := Hc.out
      omega
    case measure => simp [intOf]; omega
  ·obtain rfl : i = j := by omega
   have i9 : ¬ (i : Int) < (i : Int) := by omega
   have hl : (X.map Ck.dat).length = n := by rw [List.length_map]; exact Hn.out
   have Hl := ihq hl
   clear hl
   have Hb := ihq hb; have Hlo := ihq hlo; have Hhi := ihq hhi
   by_cases hin : i < n
   ·obtain ⟨k, hx⟩ : ∃ r, X[i]? = some r := ⟨_, List.getElem?_eq_getElem (by have := Hn.out; omega)⟩
    obtain ⟨g1, o1, hA, hat⟩ := (Hk.out.below hb).get hx
    simp only at hA
    subst hA
    have hld := zC hat
    have i0 : (0 : Int) <= (i : Int) := by omega
    have i1 : (i : Int) < (n : Int) := by omega
    have C := ihq (fun W => VfindCmp k x W)
    have Hx := ihq hx
    have hge := hhi i k hx (Nat.le_refl _)
    have hpw := List.pairwise_iff_getElem.1 (show (X.map Ck.dat).Pairwise fun a b => a.id < b.id from Hr.out)
    have Hp := ihq hpw
    clear hb hlo hhi hx hat hpw
    by_cases hc : k.id = x
    ·have hcmp : Lib.compareInt k.id x = 0 := by unfold Lib.compareInt; rw [hc]; simp
     rw [hcmp] at C
     clear hcmp
     unfold ckA at C
     have Hc := ihq hc
     clear hc hge
     go_wp2_with (go_at_call 103; refine (C.out _).mono ?_; rintro e w' ⟨rfl, hb3⟩; have Hb3 := ihq (Hb.out.trans (hb3.mono Hb.out.size)); clear hb3)
     go_ret2
     refine ⟨i, true, rfl, by rw [Hl.out]; omega, fun _ => ⟨k.dat, by rw [List.getElem?_map, Hx.out]; rfl, Hc.out⟩, (fun h => by cases h), Hb3.out⟩
    ·have hcmp : Lib.compareInt k.id x = 1 := by unfold Lib.compareInt; rw [if_neg (by omega), if_pos (by omega)]
     rw [hcmp] at C
     clear hcmp
     unfold ckA at C
     have Hc := ihq (show x < k.id by omega)
     clear hc hge
     go_wp2_with (go_at_call 103; refine (C.out _).mono ?_; rintro e w' ⟨rfl, hb3⟩; have Hb3 := ihq (Hb.out.trans (hb3.mono Hb.out.size)); clear hb3)
     go_ret2
     refine ⟨i, false, rfl, by rw [Hl.out]; omega, (fun h => by cases h), fun _ d hd => ?_, Hb3.out⟩
     obtain ⟨k', hk', rfl⟩ := List.mem_map.1 hd
     obtain ⟨q, hq⟩ := List.getElem?_of_mem hk'
     show k'.id ≠ x
     rcases (by omega : q < i \/ i <= q) with h3 | h3
     ·have := Hlo.out q k' hq h3
      omega
     ·rcases (by omega : i = q \/ i < q) with rfl | h4
      ·rw [Hx.out] at hq
       injection hq with hq
       subst hq
       have := Hc.out
       omega
      ·obtain ⟨q1, rfl⟩ := List.getElem?_eq_some_iff.1 hq
       obtain ⟨h1, rfl⟩ := List.getElem?_eq_some_iff.1 Hx.out
       have h5 := Hp.out i q (by simpa using h1) (by simpa using q1) h4
       simp only [List.getElem_map, Ck.dat] at h5
       have := Hc.out
       omega
   ·obtain rfl : i = n := by omega
    clear hb hlo hhi hin
    go_wp2
    go_ret2
    refine ⟨i, false, rfl, by rw [Hl.out]; omega, (fun h => by cases h), fun _ d hd => ?_, Hb.out⟩
    obtain ⟨k', hk', rfl⟩ := List.mem_map.1 hd
    obtain ⟨q, hq⟩ := List.getElem?_of_mem hk'
    show k'.id ≠ x
    have := Hlo.out q k' hq (by have := (List.getElem?_eq_some_iff.1 hq).1; have := Hn.out; omega)
    omega
end Go.Proofs.YteebkolccbcehaaGreat
end
