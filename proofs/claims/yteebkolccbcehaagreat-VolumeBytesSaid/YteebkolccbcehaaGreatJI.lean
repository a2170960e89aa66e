/-
  Joined: VolJoin, Step, VolProm. Conditions: each theorem's own.
-/
import Derived.Test.YteebkolccbcehaaGreatVolDrop
import Derived.Test.YteebkolccbcehaaGreatJA
import Derived.RegionTactic
import Derived.Test.YteebkolccbcehaaGreatHeldT

section
set_option linter.all false
namespace Go.Proofs.YteebkolccbcehaaGreat
open Go.ChangeShapes Go.WideShapes Go.ChangeAt Go.RowKit
attribute [local go_sem ↓] yd
attribute [local go_sem ↓] yv
set_option maxRecDepth 100000 in
set_option maxHeartbeats 4000000 in
theorem VJoin (g : Nat) (s : St) (c : Cmd) (w : World) (h : StAt w g s) (hf : yF s) (ho : OrdS s) (hk : c.k = 7) :
  Calls Tryz.prog 46 #[.pointer (some ⟨g, 0, none⟩), cmdA c] w (yC g (xK s c) w) := by
 unfold cmdA
 obtain ⟨w1, hw1, hb1, hr1⟩ := zN w c
 have c1 : w1.cell? ⟨w.heap.size, 1, none⟩ = some (.int .i64 c.a) := zc hr1 1
 have c2 : w1.cell? ⟨w.heap.size, 2, none⟩ = some (.int .i64 c.b) := zc hr1 2
 have c3 : w1.cell? ⟨w.heap.size, 3, none⟩ = some (.int .i64 c.c) := zc hr1 3
 have H := ihq (h.below hb1); have Hb1 := ihq hb1; have Hr1 := ihq hr1
 have hgl := h.lt
 have KI := Q1 g s c.c w1 H.out
 unfold xK
 have Hk := ihq hk
 clear h hb1 hr1
 by_cases h7 : c.k = 7 /\ xr s c.c = false
 ·rw [if_pos h7]
  rw [h7.2] at KI
  replace KI := ihq KI
  clear h7 hk
  go_enter Tryz.func46, Tryz.ntmps46
  go_wp2_with (go_at_call 84; refine KI.out.mono ?_; rintro e w2 ⟨rfl, rfl⟩)
  go_ret
  exact yC.err Hb1.out (by decide)
 rw [if_neg h7]
 have hsv : xr s c.c = true := by
  cases he : xr s c.c with
  | true => rfl
  | false => exact absurd ⟨hk, he⟩ h7
 rw [hsv] at KI
 replace KI := ihq KI
 clear h7 hk hsv
 cases hfs : xL s c.a with
 | none =>
  have KE := ihq (ZK g s c.a c.b w1 H.out hf ho hfs)
  have Hb1 := Hb1
  clear hfs
  go_enter Tryz.func46, Tryz.ntmps46
  go_wp2_with fail
  refine KI.out.mono ?_
  rintro e w1' ⟨rfl, rfl⟩
  go_wp2_with fail
  refine KE.out.mono ?_
  rintro e w2 ⟨rfl, hb2⟩
  obtain ⟨wz, w3, hwz, hst9, hb3, hr3⟩ := yq w2 ck0
  simp only [ck0, Sl.nil] at hst9 hr3
  have Hb3 := ihq (Hb1.out.trans ((hb2.trans (hb3.mono hb2.size)).mono Hb1.out.size))
  clear hb2 hb3 hr3 hw1 c1 c2
  go_wp2
  go_ret
  exact yC.err Hb3.out (by decide)
 | some x =>
  obtain ⟨i, j, k⟩ := x
  simp only
  by_cases hep : k.ep ≠ c.b
  ·rw [if_pos hep]
   have KE := ihq (Z1 g s c.a c.b i j k w1 H.out hf ho hfs hep)
   clear hfs hep
   go_enter Tryz.func46, Tryz.ntmps46
   go_wp2_with fail
   refine KI.out.mono ?_
   rintro e w1' ⟨rfl, rfl⟩
   go_wp2_with fail
   refine KE.out.mono ?_
   rintro e w2 ⟨rfl, hb2⟩
   obtain ⟨wz, w3, hwz, hst9, hb3, hr3⟩ := yq w2 ck0
   simp only [ck0, Sl.nil] at hst9 hr3
   have Hb3 := ihq (Hb1.out.trans ((hb2.trans (hb3.mono hb2.size)).mono Hb1.out.size))
   clear hb2 hb3 hr3 hw1 c1 c2
   go_wp2
   go_ret
   exact yC.err Hb3.out (by decide)
  ·rw [if_neg hep]
   have hep : k.ep = c.b := Decidable.of_not_not hep
   have KE := Z0 g s c.a i j k w1 H.out hf ho hfs
   rw [hep] at KE
   replace KE := ihq KE
   have hfa := xp hfs
   have hkf := (hf.vs i hfa.1).ks k (List.mem_of_getElem? hfa.2.1)
   have Hfa := ihq hfa; have Hkf := ihq hkf; have Hf := ihq hf; have Ho := ihq ho
   have e0 : xF c k = if hasK c.c k = true then .inr 8 else if 4 <= k.ms.length + k.js.length then .inr 6 else .inl { k with js := k.js ++ [c.c] } := by
    unfold xF
    rw [if_neg (by have := Hk.out; omega), if_pos Hk.out]
   rw [e0]
   clear hfs hfa hkf hf ho hep e0
   by_cases hb : hasK c.c k = true
   ·rw [if_pos hb]
    have Hb := ihq hb
    clear hb
    go_enter Tryz.func46, Tryz.ntmps46
    go_wp2_with fail
    refine KI.out.mono ?_
    rintro e w1' ⟨rfl, rfl⟩
    go_wp2_with fail
    refine KE.out.mono ?_
    rintro e w2 ⟨r, rfl, rfl, hown, hb2⟩
    unfold ckA
    obtain ⟨wz, w3, hwz, hst9, hb3, hr3⟩ := yq w2 r
    have hld := zC (CkAt.of_row hr3)
    have hown3 := hown.below hb3
    have hml : r.ms.length <= 16 := Hkf.out.ml
    have hjl : r.js.length <= 16 := Hkf.out.jl
    have KH := Vhas r c.c w3 hown3.ok (by omega) (by omega)
    have hb13 := hb2.trans (hb3.mono hb2.size)
    have hr13 := za Hr1.out hb13
    have x3 : w3.cell? ⟨w.heap.size, 3, none⟩ = some (.int .i64 c.c) := zc hr13 3
    have Hb13 := ihq (Hb1.out.trans (hb13.mono Hb1.out.size)); have Hr13 := ihq hr13; have Hw13 := ihq hb13; have Hr3 := ihq hr3; have Hown3 := ihq hown3
    have hs1 : w1.heap.size <= w2.heap.size := hb2.size
    have hsw : w.heap.size < w1.heap.size := (Array.getElem?_eq_some_iff.1 Hr1.out).1
    rw [Hb.out] at KH
    unfold ckA at KH
    replace KH := ihq KH
    clear hown hb2 hb3 hr3 hown3 hb13 hr13 c1 c2 c3 hw1
    go_wp2_with (go_at_call 72; refine KH.out.mono ?_; rintro e w4 ⟨rfl, hb4⟩; have Hb4 := ihq (Hb13.out.trans (hb4.mono Hb13.out.size)); clear hb4)
    go_ret
    exact yC.err Hb4.out (by decide)
   ·rw [if_neg hb]
    have Hb := ihq (show hasK c.c k = false by simpa using hb)
    clear hb
    by_cases hm : 4 <= k.ms.length + k.js.length
    ·rw [if_pos hm]
     have Hm := ihq hm
     clear hm
     go_enter Tryz.func46, Tryz.ntmps46
     go_wp2_with fail
     refine KI.out.mono ?_
     rintro e w1' ⟨rfl, rfl⟩
     go_wp2_with fail
     refine KE.out.mono ?_
     rintro e w2 ⟨r, rfl, rfl, hown, hb2⟩
     unfold ckA
     obtain ⟨wz, w3, hwz, hst9, hb3, hr3⟩ := yq w2 r
     have hld := zC (CkAt.of_row hr3)
     have hown3 := hown.below hb3
     have hml : r.ms.length <= 16 := Hkf.out.ml
     have hjl : r.js.length <= 16 := Hkf.out.jl
     have KH := Vhas r c.c w3 hown3.ok (by omega) (by omega)
     have hb13 := hb2.trans (hb3.mono hb2.size)
     have hr13 := za Hr1.out hb13
     have x3 : w3.cell? ⟨w.heap.size, 3, none⟩ = some (.int .i64 c.c) := zc hr13 3
     have Hb13 := ihq (Hb1.out.trans (hb13.mono Hb1.out.size)); have Hr13 := ihq hr13; have Hw13 := ihq hb13; have Hr3 := ihq hr3; have Hown3 := ihq hown3
     have hs1 : w1.heap.size <= w2.heap.size := hb2.size
     have hsw : w.heap.size < w1.heap.size := (Array.getElem?_eq_some_iff.1 Hr1.out).1
     rw [Hb.out] at KH
     unfold ckA at KH
     replace KH := ihq KH
     clear hown hb2 hb3 hr3 hown3 hb13 hr13 c1 c2 c3 hw1
     go_wp2_with fail
     refine KH.out.mono ?_
     rintro e w4 ⟨rfl, hb4⟩
     have hr4 := za Hr3.out hb4
     have y3 : w4.cell? ⟨w2.heap.size, 3, none⟩ = some (.slice r.m.A r.m.n r.m.c) := zc hr4 3
     have y4 : w4.cell? ⟨w2.heap.size, 4, none⟩ = some (.slice r.j.A r.j.n r.j.c) := zc hr4 4
     have hown4 := Hown3.out.below hb4
     have hmn : r.ms.length = r.m.n := hown4.ok.m.len
     have hjn : r.js.length = r.j.n := hown4.ok.j.len
     have Hr4 := ihq hr4; have Hown4 := ihq hown4; have Hb4 := ihq hb4; have Hjn := ihq hjn; have Hmn := ihq hmn
     have m16 : r.m.n <= 16 := by omega
     have j16 : r.j.n <= 16 := by omega
     have hsum : 4 <= (r.m.n : Int) + (r.j.n : Int) := by
      have h := Hm.out
      have h' : 4 <= r.ms.length + r.js.length := h
      omega
     clear hmn hjn hr4 hown4 hb4
     go_wp2
     go_ret
     exact yC.err (Hb13.out.trans (Hb4.out.mono Hb13.out.size)) (by decide)
    ·rw [if_neg hm]
     have Hm := ihq hm
     clear hm
     go_enter Tryz.func46, Tryz.ntmps46
     go_wp2_with fail
     refine KI.out.mono ?_
     rintro e w1' ⟨rfl, rfl⟩
     go_wp2_with fail
     refine KE.out.mono ?_
     rintro e w2 ⟨r, rfl, rfl, hown, hb2⟩
     unfold ckA
     obtain ⟨wz, w3, hwz, hst9, hb3, hr3⟩ := yq w2 r
     have hld := zC (CkAt.of_row hr3)
     have hown3 := hown.below hb3
     have hml : r.ms.length <= 16 := Hkf.out.ml
     have hjl : r.js.length <= 16 := Hkf.out.jl
     have KH := Vhas r c.c w3 hown3.ok (by omega) (by omega)
     have hb13 := hb2.trans (hb3.mono hb2.size)
     have hr13 := za Hr1.out hb13
     have x3 : w3.cell? ⟨w.heap.size, 3, none⟩ = some (.int .i64 c.c) := zc hr13 3
     have Hb13 := ihq (Hb1.out.trans (hb13.mono Hb1.out.size)); have Hr13 := ihq hr13; have Hw13 := ihq hb13; have Hr3 := ihq hr3; have Hown3 := ihq hown3
     have hs1 : w1.heap.size <= w2.heap.size := hb2.size
     have hsw : w.heap.size < w1.heap.size := (Array.getElem?_eq_some_iff.1 Hr1.out).1
     rw [Hb.out] at KH
     unfold ckA at KH
     replace KH := ihq KH
     clear hown hb2 hb3 hr3 hown3 hb13 hr13 c1 c2 c3 hw1
     go_wp2_with fail
     refine KH.out.mono ?_
     rintro e w4 ⟨rfl, hb4⟩
     have hr4 := za Hr3.out hb4
     have y3 : w4.cell? ⟨w2.heap.size, 3, none⟩ = some (.slice r.m.A r.m.n r.m.c) := zc hr4 3
     have y4 : w4.cell? ⟨w2.heap.size, 4, none⟩ = some (.slice r.j.A r.j.n r.j.c) := zc hr4 4
     have hown4 := Hown3.out.below hb4
     have hmn : r.ms.length = r.m.n := hown4.ok.m.len
     have hjn : r.js.length = r.j.n := hown4.ok.j.len
     have Hr4 := ihq hr4; have Hown4 := ihq hown4; have Hb4 := ihq hb4; have Hjn := ihq hjn; have Hmn := ihq hmn
     have m16 : r.m.n <= 16 := by omega
     have j16 : r.j.n <= 16 := by omega
     have hsum : ¬ 4 <= (r.m.n : Int) + (r.j.n : Int) := by
      have h := Hm.out
      have h' : ¬ 4 <= r.ms.length + r.js.length := h
      omega
     have y3c : w4.cell? ⟨w.heap.size, 3, none⟩ = some (.int .i64 c.c) := zc (za Hr13.out hb4) 3
     obtain ⟨w5, hw5⟩ : ∃ w5, w4.alloc (.cells #[.int .i64 c.c] 3) = w5 := ⟨_, rfl⟩
     have hb5 : Below w4.heap.size w4 w5 := by rw [<- hw5]; exact zg _ _
     have hs5 : Seen w5 (some ⟨w4.heap.size, 0, none⟩) [.int .i64 c.c] := by rw [<- hw5]; exact Seen.of_cells (heap_alloc_new _ _)
     have Ho5 := ihq (hown4.below hb5); have Hs5 := ihq hs5; have Hr5 := ihq (za hr4 hb5); have Hb5 := ihq (Hw13.out.trans ((hb4.trans (hb5.mono hb4.size)).mono Hw13.out.size))
     have hs15 := Hb5.out.size
     clear hmn hjn hr4 hown4 hb4 hb5 hs5
     go_wp2_with (at_builtin; refine ym rfl (.tmp 40) (.tmp 43) _ rfl 3 _ 8 Tryz.underlying28 zP rfl w1.heap.size r.j.A r.j.n r.j.c (zo r.js) rfl Ho5.out.j (some ⟨w4.heap.size, 0, none⟩) 1 1 [.int .i64 c.c] rfl rfl Hs5.out (fun u hu => by simp at hu; subst hu; rfl) (by unfold maxLen; omega) (by omega) hs15 ?_; intro A6 c6 w6 hown6 hg6 hbk6; have t6 : Turned (fun k => (Value.slice r.j.A r.j.n r.j.c).ownBlock = some k) w5 w6 := Turned.of_grown hg6 (fun k e => e); have hr6 := t6.heap Hr5.out (fun e => Zw Hr5.out Ho5.out.j e rfl); have f4 := zc hr6 4; have z4 := zt hr6 4; have Hown6 := ihq hown6; have T6 := ihq t6; have Hbk6 := ihq hbk6; have Hr6 := ihq hr6; obtain ⟨w7, hw7⟩ : ∃ w7, w6.setCell ⟨w2.heap.size, 4, none⟩ (.slice A6 (r.j.n + 1) c6) = w7 := ⟨_, rfl⟩; have hr7 : w7.heap[w2.heap.size]? = some (.cells #[.int .i64 r.id, .int .i64 r.vo, .int .i64 r.ep, .slice r.m.A r.m.n r.m.c, .slice A6 (r.j.n + 1) c6] 82 (0, 0)) := (by rw [<- hw7, zG hr6]; rfl); have t7 : Turned (fun k => k = w2.heap.size) w6 w7 := (by rw [<- hw7]; exact (Turned.refl (fun k => k = w2.heap.size) w6).setCell (b := ⟨w2.heap.size, 4, none⟩) (fun _ => rfl) _); have hldq := zC (k := { r with j := ⟨A6, r.j.n + 1, c6⟩, js := r.js ++ [c.c] }) (CkAt.of_row hr7); have Hr7 := ihq hr7; have T7 := ihq t7; clear hown6 hg6 hbk6 t6 hr6 hr7 t7)
     have b6 : Below w1.heap.size w5 w6 := T6.out.below (fun k e => (Ho5.out.j.lt k e).1) hs15
     have hs16 := b6.size
     have hbc : Below w1.heap.size w1 w7 := (Hb5.out.trans b6).trans (T7.out.below (fun k e => by omega) (by omega))
     have em6 := T6.out.own Ho5.out.m (fun k hk e => Ho5.out.ne k hk e)
     have em7 := T7.out.own em6 (fun k hk e => Zw Hr6.out em6 hk e)
     have ej6 : w6.ownsRow w1.heap.size 3 1 (.slice A6 (r.j.n + 1) c6) (r.j.n + 1) (zo (r.js ++ [c.c])) := by rw [zW]; exact Hown6.out
     have ej7 := T7.out.own ej6 (fun k hk e => Zw Hr6.out ej6 hk e)
     have hokq : CkOk w7 { r with j := ⟨A6, r.j.n + 1, c6⟩, js := r.js ++ [c.c] } := by
      obtain ⟨id, vo, ep, ⟨mA, mn, mc⟩, j, ms, js⟩ := r
      exact ⟨zQ.own em7, zQ.own ej7⟩
     have hfe := Hkf.out.ep
     have hfid : r.dat.id = c.a := Hfa.out.2.2
     have KR := Vrenew g s i j r.dat { r with j := ⟨A6, r.j.n + 1, c6⟩, js := r.js ++ [c.c] } w7 (H.out.below hbc) Hf.out Ho.out ⟨Hfa.out.1, Hfa.out.2.1, rfl⟩ hokq hfe.1 hfe.2
     unfold ckA at KR
     simp only at KR
     have Hbc := ihq hbc
     refine KR.mono ?_
     rintro e w10 ⟨rfl, hst10, ht10⟩
     have Hst := ihq hst10; have Ht := ihq ht10
     clear b6 hs16 hbc em6 em7 ej6 ej7 hokq hfe hfid KR hst10 ht10 hldq f4 z4 hw7 hw5 y3 y4 y3c x3 hld hst9 hwz
     go_wp2
     go_ret
     exact ⟨rfl, fun _ => Hst.out, (Turned.of_below (p := fun k => k = g) (Hb1.out.trans (Hbc.out.mono Hb1.out.size))).trans Ht.out (fun _ e => e) (fun _ _ e => e)⟩
end Go.Proofs.YteebkolccbcehaaGreat
end

section
set_option linter.all false
namespace Go.Proofs.YteebkolccbcehaaGreat
open Go.ChangeShapes Go.WideShapes Go.ChangeAt Go.RowKit
section
variable {P : Program} {w : World}
end
end Go.Proofs.YteebkolccbcehaaGreat
end

section
set_option linter.all false
namespace Go.Proofs.YteebkolccbcehaaGreat
open Go.ChangeShapes Go.WideShapes Go.ChangeAt Go.RowKit
section
variable {P : Program} {w : World}
theorem wp_app {o : Oper} {a : Act} {K : Act -> World -> Prop} {Q : Exit -> Act -> World -> Prop} (s x : Operand) (t : TypeId)
  (ho : o.op = .call { callee := .builtin .append, args := #[s, x], argTypes := #[t, t] })
  (e : TypeId) (z : Value) (bytes : Nat) (ht : P.underlying t = some (.slice e)) (hinfo : (P.info? e).map (fun i => (i.zero, i.size, i.bytes)) = some (some z, 1, bytes)) (hz1 : z.cells.size = 1)
  (base : Nat) (A : Option Addr) (n c : Nat) (xs : List Value) (hs : a.eval s = .slice A n c) (hown : w.ownsRow base e 1 (.slice A n c) n xs)
  (A2 : Option Addr) (m c2 : Nat) (news : List Value) (hx : a.eval x = .slice A2 m c2) (hm : news.length = m) (hsee : Seen w A2 news) (h1 : ∀ u ∈ news, u.oneCell' = true)
  (h63 : n + m <= maxLen) (hbytes : (n + m) * bytes <= 140737488355328) (hbase : base <= w.heap.size)
  (h : ∀ A' c' w', w'.ownsRow base e 1 (.slice A' (n + m) c') (n + m) (xs ++ news) -> w.grownBy w' (Value.slice A n c).ownBlock -> (∀ k, (Value.slice A' (n + m) c').ownBlock = some k -> (Value.slice A n c).ownBlock = some k \/ k = w.heap.size) ->
   K (a.put o.dst (.slice A' (n + m) c')) w') : Oper.wp P o a w K Q := by
 obtain ⟨A', c', w', hrun, h2, h3, h4⟩ := run_app2 (P := P) t o.type e z bytes ht hinfo hz1 base A n c xs hown A2 m c2 news hm hsee h1 h63 hbytes hbase
 unfold Oper.wp execOp
 simp only [ho, resolve, invoke, builtin, Sem.run_bind, Sem.run_pure, Result.andThen_ok, List.map_toArray, List.map_cons, List.map_nil, hs, hx, hrun]
 exact h A' c' w' h2 h3 h4
end
theorem two_lists2 {B b9 : Nat} {w3 w5 w6 w8 : World} {r : Ck} {s1 s2 : Sl} {us vs : List Int} (hr8 : w8.heap[b9]? = some (.cells #[.int .i64 r.id, .int .i64 r.vo, .int .i64 r.ep, .slice r.m.A r.m.n r.m.c, .slice r.j.A r.j.n r.j.c] 82 (0, 0)))
  (ho : Zm w3 B r) (b5 : Below w3.heap.size w3 w5) (h6 : w6.ownsRow B 3 1 (.slice s1.A s1.n s1.c) s1.n (zo us)) (k6 : ∀ b, (Value.slice s1.A s1.n s1.c).ownBlock = some b -> (Value.slice r.m.A r.m.n r.m.c).ownBlock = some b \/ b = w5.heap.size) (t6 : Turned (fun k => (Value.slice r.m.A r.m.n r.m.c).ownBlock = some k) w5 w6)
  (h8 : w8.ownsRow B 3 1 (.slice s2.A s2.n s2.c) s2.n (zo vs)) (t8 : Turned (fun k => (Value.slice r.j.A r.j.n r.j.c).ownBlock = some k) w6 w8) (hB : B <= b9) (hB3 : B <= w3.heap.size) :
  ∃ q : Ck, q.dat = ⟨r.id, r.vo, r.ep, us, vs⟩ /\ ((w8.setCell ⟨b9, 3, none⟩ (.slice s1.A s1.n s1.c)).setCell ⟨b9, 4, none⟩ (.slice s2.A s2.n s2.c)).heap[b9]? = some (.cells #[.int .i64 q.id, .int .i64 q.vo, .int .i64 q.ep, .slice q.m.A q.m.n q.m.c, .slice q.j.A q.j.n q.j.c] 82 (0, 0)) /\
   CkOk ((w8.setCell ⟨b9, 3, none⟩ (.slice s1.A s1.n s1.c)).setCell ⟨b9, 4, none⟩ (.slice s2.A s2.n s2.c)) q /\ Turned (fun k => B <= k) w3 ((w8.setCell ⟨b9, 3, none⟩ (.slice s1.A s1.n s1.c)).setCell ⟨b9, 4, none⟩ (.slice s2.A s2.n s2.c)) := by
 obtain ⟨h1, t9⟩ := ck_set2 hr8 s1 s2
 have e7 := t8.own h6 (fun k hk e => by
  rcases k6 k hk with h | h
  ·exact ho.ne k h e
  ·have := (ho.j.lt k e).2
   have := b5.size
   omega)
 refine ⟨⟨r.id, r.vo, r.ep, s1, s2, us, vs⟩, rfl, h1, ⟨zQ.own (t9.own e7 fun b hb e => Zw hr8 e7 hb e), zQ.own (t9.own h8 fun b hb e => Zw hr8 h8 hb e)⟩, ?_⟩
 have t36 : Turned (fun k => B <= k) w3 w6 := (Turned.of_below (p := fun _ => False) b5).trans t6 (fun _ e => e.elim) (fun k _ e => (ho.m.lt k e).1)
 exact (t36.trans t8 (fun _ e => e) (fun k _ e => (ho.j.lt k e).1)).trans t9 (fun _ e => e) (fun k _ e => by subst e; exact hB)
attribute [local go_sem ↓] yd
attribute [local go_sem ↓] yv
set_option maxRecDepth 100000 in
set_option maxHeartbeats 4000000 in
theorem VPromote (g : Nat) (s : St) (c : Cmd) (w : World) (h : StAt w g s) (hf : yF s) (ho : OrdS s) (hk : c.k = 8) :
  Calls Tryz.prog 47 #[.pointer (some ⟨g, 0, none⟩), cmdA c] w (yC g (xK s c) w) := by
 unfold cmdA
 obtain ⟨w1, hw1, hb1, hr1⟩ := zN w c
 have c1 : w1.cell? ⟨w.heap.size, 1, none⟩ = some (.int .i64 c.a) := zc hr1 1
 have c2 : w1.cell? ⟨w.heap.size, 2, none⟩ = some (.int .i64 c.b) := zc hr1 2
 have H := ihq (h.below hb1); have Hb1 := ihq hb1; have Hr1 := ihq hr1
 have hgl := h.lt
 have h7 : ¬ (c.k = 7 /\ xr s c.c = false) := fun e => by omega
 unfold xK
 rw [if_neg h7]
 have Hk := ihq hk
 clear h hb1 hr1 h7 hk
 cases hfs : xL s c.a with
 | none =>
  have KE := ihq (ZK g s c.a c.b w1 H.out hf ho hfs)
  have Hb1 := Hb1
  clear hfs
  go_enter Tryz.func47, Tryz.ntmps47
  go_wp2_with fail
  refine KE.out.mono ?_
  rintro e w2 ⟨rfl, hb2⟩
  obtain ⟨wz, w3, hwz, hst9, hb3, hr3⟩ := yq w2 ck0
  simp only [ck0, Sl.nil] at hst9 hr3
  have Hb3 := ihq (Hb1.out.trans ((hb2.trans (hb3.mono hb2.size)).mono Hb1.out.size))
  clear hb2 hb3 hr3 hw1 c1 c2
  go_wp2
  go_ret
  exact yC.err Hb3.out (by decide)
 | some x =>
  obtain ⟨i, j, k⟩ := x
  simp only
  by_cases hep : k.ep ≠ c.b
  ·rw [if_pos hep]
   have KE := ihq (Z1 g s c.a c.b i j k w1 H.out hf ho hfs hep)
   clear hfs hep
   go_enter Tryz.func47, Tryz.ntmps47
   go_wp2_with fail
   refine KE.out.mono ?_
   rintro e w2 ⟨rfl, hb2⟩
   obtain ⟨wz, w3, hwz, hst9, hb3, hr3⟩ := yq w2 ck0
   simp only [ck0, Sl.nil] at hst9 hr3
   have Hb3 := ihq (Hb1.out.trans ((hb2.trans (hb3.mono hb2.size)).mono Hb1.out.size))
   clear hb2 hb3 hr3 hw1 c1 c2
   go_wp2
   go_ret
   exact yC.err Hb3.out (by decide)
  ·rw [if_neg hep]
   have hep : k.ep = c.b := Decidable.of_not_not hep
   have KE := Z0 g s c.a i j k w1 H.out hf ho hfs
   rw [hep] at KE
   replace KE := ihq KE
   have hfa := xp hfs
   have hkf := (hf.vs i hfa.1).ks k (List.mem_of_getElem? hfa.2.1)
   have Hfa := ihq hfa; have Hkf := ihq hkf; have Hf := ihq hf; have Ho := ihq ho
   have e0 : xF c k = if c.c ∈ k.js then .inl { k with ms := k.ms ++ [c.c], js := zl k.js c.c } else .inr 1 := by
    unfold xF
    rw [if_neg (by have := Hk.out; omega), if_neg (by have := Hk.out; omega)]
   rw [e0]
   clear hfs hfa hkf hf ho hep e0
   by_cases hb : c.c ∈ k.js
   ·rw [if_pos hb]
    have Hb := ihq hb
    clear hb
    go_enter Tryz.func47, Tryz.ntmps47
    go_wp2_with fail
    refine KE.out.mono ?_
    rintro e w2 ⟨r, rfl, rfl, hown, hb2⟩
    unfold ckA
    obtain ⟨wz, w3, hwz, hst9, hb3, hr3⟩ := yq w2 r
    have hown3 := hown.below hb3
    have hml : r.ms.length <= 16 := Hkf.out.ml
    have hjl : r.js.length <= 16 := Hkf.out.jl
    have KH := Yv r.j r.js c.c w3 hown3.ok.j (by omega)
    have hb13 := hb2.trans (hb3.mono hb2.size)
    have hr13 := za Hr1.out hb13
    have x3 : w3.cell? ⟨w.heap.size, 3, none⟩ = some (.int .i64 c.c) := zc hr13 3
    have y4 : w3.cell? ⟨w2.heap.size, 4, none⟩ = some (.slice r.j.A r.j.n r.j.c) := zc hr3 4
    have Hb13 := ihq (Hb1.out.trans (hb13.mono Hb1.out.size)); have Hr13 := ihq hr13; have Hw13 := ihq hb13; have Hr3 := ihq hr3; have Hown3 := ihq hown3
    have hs1 : w1.heap.size <= w2.heap.size := hb2.size
    have hsw : w.heap.size < w1.heap.size := (Array.getElem?_eq_some_iff.1 Hr1.out).1
    rw [show decide (c.c ∈ r.js) = true from decide_eq_true Hb.out] at KH
    replace KH := ihq KH
    clear hown hb2 hb3 hr3 hown3 hb13 hr13 c1 c2 hw1
    go_upto_region 6 with (go_at_call 85; refine KH.out.mono ?_; rintro e w4 ⟨rfl, rfl⟩)
    clear x3 y4 hst9 hwz
    have d3 : w3.drew.cell? ⟨w2.heap.size, 3, none⟩ = some (.slice r.m.A r.m.n r.m.c) := zc (w := w3.drew) Hr3.out 3
    have d4 : w3.drew.cell? ⟨w2.heap.size, 4, none⟩ = some (.slice r.j.A r.j.n r.j.c) := zc (w := w3.drew) Hr3.out 4
    have d5 : w3.drew.cell? ⟨w.heap.size, 3, none⟩ = some (.int .i64 c.c) := zc (w := w3.drew) Hr13.out 3
    obtain ⟨w5, hw5⟩ : ∃ w5, w3.drew.alloc (.cells #[.int .i64 c.c] 3) = w5 := ⟨_, rfl⟩
    have hb5 : Below w3.heap.size w3 w5 := by rw [<- hw5]; exact (Below.refl _ _).drew.alloc (Nat.le_refl _) _
    have hs5 : Seen w5 (some ⟨w3.heap.size, 0, none⟩) [.int .i64 c.c] := by rw [<- hw5]; exact Seen.of_cells (heap_alloc_new w3.drew _)
    have hr5 := za Hr3.out hb5
    have hr15 := za Hr13.out hb5
    have g3 : w5.cell? ⟨w2.heap.size, 3, none⟩ = some (.slice r.m.A r.m.n r.m.c) := zc hr5 3
    have g4 : w5.cell? ⟨w2.heap.size, 4, none⟩ = some (.slice r.j.A r.j.n r.j.c) := zc hr5 4
    have g5 : w5.cell? ⟨w.heap.size, 3, none⟩ = some (.int .i64 c.c) := zc hr15 3
    have hmn : r.ms.length = r.m.n := Hown3.out.ok.m.len
    have m16 : r.m.n <= 16 := by omega
    have hs13 := Hw13.out.size
    have Ho5 := ihq (Hown3.out.below hb5); have Hs5 := ihq hs5; have Hr5 := ihq hr5; have Hr15 := ihq hr15; have Hb5 := ihq hb5; have Hmn := ihq hmn
    have hs35 := hb5.size
    clear hb5 hs5 hr5 hr15 hmn
    go_cut [6] (fun _ wx => ∃ q : Ck, q.dat = { r.dat with ms := r.ms ++ [c.c], js := zl r.js c.c } /\ wx.heap[w2.heap.size]? = some (.cells #[.int .i64 q.id, .int .i64 q.vo, .int .i64 q.ep, .slice q.m.A q.m.n q.m.c, .slice q.j.A q.j.n q.j.c] 82 (0, 0)) /\ CkOk wx q /\ Turned (fun k => w1.heap.size <= k) w3 wx)
    case first =>
     refine zU (S := (fun W => W.cell? ⟨w2.heap.size, 3, none⟩ = some (.slice r.m.A r.m.n r.m.c) /\ W.cell? ⟨w2.heap.size, 4, none⟩ = some (.slice r.j.A r.j.n r.j.c) /\ W.cell? ⟨w.heap.size, 3, none⟩ = some (.int .i64 c.c))) 12 (by kernel_rfl) ?_
     have hHeld := (And.intro d3 (And.intro d4 d5))
     refine zi (i := 0) (v := ?vr1) rfl (by kernel_rfl) (fun _ _ _ h => h) (Or.inl ⟨by rfl, ?hyr1⟩) hHeld ?restr1
     case hyr1 => (intro w' hS; obtain ⟨s1, s2, s3⟩ := hS; (try simp only [iq4, iq5, iq6]); go_simp; try with_reducible rfl)
     try simp only [Act.put, iq1, iq2, iq3, iq4, iq5, iq6]
     refine zi (i := 1) (v := ?vr2) rfl (by kernel_rfl) (fun _ _ _ h => h) (Or.inl ⟨by rfl, ?hyr2⟩) hHeld ?restr2
     case hyr2 => (intro w' hS; obtain ⟨s1, s2, s3⟩ := hS; (try simp only [iq4, iq5, iq6]); go_simp; try with_reducible rfl)
     try simp only [Act.put, iq1, iq2, iq3, iq4, iq5, iq6]
     refine zi (i := 2) (v := ?vr3) rfl (by kernel_rfl) (fun _ _ _ h => h) (Or.inl ⟨by rfl, ?hyr3⟩) hHeld ?restr3
     case hyr3 => (intro w' hS; obtain ⟨s1, s2, s3⟩ := hS; (try simp only [iq4, iq5, iq6]); go_simp; try with_reducible rfl)
     try simp only [Act.put, iq1, iq2, iq3, iq4, iq5, iq6]
     refine zi (i := 3) (v := ?vr4) rfl (by kernel_rfl) (fun _ _ _ h => h) (Or.inl ⟨by rfl, ?hyr4⟩) hHeld ?restr4
     case hyr4 => (intro w' hS; obtain ⟨s1, s2, s3⟩ := hS; (try simp only [iq4, iq5, iq6]); go_simp; try with_reducible rfl)
     try simp only [Act.put, iq1, iq2, iq3, iq4, iq5, iq6]
     refine zi (i := 6) (v := ?vr5) rfl (by kernel_rfl) (fun _ _ _ h => h) (Or.inl ⟨by rfl, ?hyr5⟩) hHeld ?restr5
     case hyr5 => (intro w' hS; obtain ⟨s1, s2, s3⟩ := hS; (try simp only [iq4, iq5, iq6]); go_simp; try with_reducible rfl)
     try simp only [Act.put, iq1, iq2, iq3, iq4, iq5, iq6]
     refine zi (i := 7) (v := ?vr6) rfl (by kernel_rfl) (fun _ _ _ h => h) (Or.inl ⟨by rfl, ?hyr6⟩) hHeld ?restr6
     case hyr6 => (intro w' hS; obtain ⟨s1, s2, s3⟩ := hS; (try simp only [iq4, iq5, iq6]); go_simp; try with_reducible rfl)
     try simp only [Act.put, iq1, iq2, iq3, iq4, iq5, iq6]
     refine zi (i := 8) (v := ?vr7) rfl (by kernel_rfl) (fun _ _ _ h => h) (Or.inl ⟨by rfl, ?hyr7⟩) hHeld ?restr7
     case hyr7 => (intro w' hS; obtain ⟨s1, s2, s3⟩ := hS; (try simp only [iq4, iq5, iq6]); go_simp; try with_reducible rfl)
     try simp only [Act.put, iq1, iq2, iq3, iq4, iq5, iq6]
     refine zi (i := 9) (v := ?vr8) rfl (by kernel_rfl) (fun _ _ _ h => h) (Or.inl ⟨by rfl, ?hyr8⟩) hHeld ?restr8
     case hyr8 => (intro w' hS; obtain ⟨s1, s2, s3⟩ := hS; (try simp only [iq4, iq5, iq6]); go_simp; try with_reducible rfl)
     try simp only [Act.put, iq1, iq2, iq3, iq4, iq5, iq6]
     refine zn (i := 4) (by kernel_rfl) rfl (fun K hK => ?_)
     (try simp only [iq4, iq5, iq6])
     go_simp
     refine hK.out _ _ (fun _ => (And.intro g3 (And.intro g4 g5))) ?_
     clear hHeld
     have hHeld := (And.intro g3 (And.intro g4 g5))
     clear hK K
     try simp only [Act.put, iq1, iq2, iq3, iq4, iq5, iq6]
     refine zn (i := 5) (by kernel_rfl) rfl (fun K hK => ?_)
     (try simp only [iq4, iq5, iq6])
     refine zy (by rfl) ?_
     refine wp_app (.tmp 28) (.tmp 31) _ (by rfl) 3 _ 8 Tryz.underlying28 zP (by rfl) w1.heap.size r.m.A r.m.n r.m.c (zo r.ms) (by rfl) Ho5.out.m (some ⟨w3.heap.size, 0, none⟩) 1 1 [.int .i64 c.c] (by rfl) (by rfl) Hs5.out (fun u hu => by simp at hu; subst hu; rfl) (by unfold maxLen; omega) (by omega) (by omega) ?_
     intro A6 c6 w6 hown6 hg6 hbk6
     have t6 : Turned (fun k => (Value.slice r.m.A r.m.n r.m.c).ownBlock = some k) w5 w6 := Turned.of_grown hg6 (fun k e => e)
     have Hr6 := ihq (t6.heap Hr5.out (fun e => Zw Hr5.out Ho5.out.m e rfl))
     have NJ := ihq (fun b (hb : (Value.slice r.j.A r.j.n r.j.c).ownBlock = some b) (e : b = w2.heap.size) => Zw Hr5.out Ho5.out.j hb e)
     have k3 : w6.cell? ⟨w2.heap.size, 3, none⟩ = some (.slice r.m.A r.m.n r.m.c) := zc Hr6.out 3
     have k4 : w6.cell? ⟨w2.heap.size, 4, none⟩ = some (.slice r.j.A r.j.n r.j.c) := zc Hr6.out 4
     have k5 : w6.cell? ⟨w.heap.size, 3, none⟩ = some (.int .i64 c.c) := zc (t6.heap Hr15.out (fun e => by have := (Ho5.out.m.lt _ e).1; omega)) 3
     have KW := ihq (Qk w1.heap.size r.j r.js c.c w6 (t6.own Ho5.out.j (fun b hb e => Ho5.out.ne b e hb)) (by have := t6.size; omega))
     have Hown6 := ihq hown6
     have T6 := ihq t6
     have Hbk6 := ihq hbk6
     clear hown6 hg6 hbk6 t6
     refine hK.out _ _ (fun _ => (And.intro k3 (And.intro k4 k5))) ?_
     clear hHeld
     have hHeld := (And.intro k3 (And.intro k4 k5))
     clear hK K
     try simp only [Act.put, iq1, iq2, iq3, iq4, iq5, iq6]
     refine zi (i := 11) (v := ?vr9) rfl (by kernel_rfl) (fun _ _ _ h => h) (Or.inl ⟨by rfl, ?hyr9⟩) hHeld ?restr9
     case hyr9 => (intro w' hS; obtain ⟨s1, s2, s3⟩ := hS; (try simp only [iq4, iq5, iq6]); go_simp; try with_reducible rfl)
     try simp only [Act.put, iq1, iq2, iq3, iq4, iq5, iq6]
     refine zn (i := 10) (by kernel_rfl) rfl (fun K hK => ?_)
     (try simp only [iq4, iq5, iq6])
     go_simp
     refine KW.out.mono ?_
     rintro e w8 ⟨s2, rfl, hown8, hbk8, ht8⟩
     have Hown8 := ihq hown8
     have Ht8 := ihq ht8
     have hr8 := ht8.heap Hr6.out (fun e => NJ.out _ e rfl)
     have f3 : w8.cell? ⟨w2.heap.size, 3, none⟩ = some (.slice r.m.A r.m.n r.m.c) := zc hr8 3
     have f4 : w8.cell? ⟨w2.heap.size, 4, none⟩ = some (.slice r.j.A r.j.n r.j.c) := zc hr8 4
     have f5 : w8.cell? ⟨w.heap.size, 3, none⟩ = some (.int .i64 c.c) := by
      rw [<- k5]; exact World.cell?_of_block (w := w6) (ht8.block w.heap.size (block_lt_of_cell k5) (fun e => by have := (Hown3.out.j.lt _ e).1; omega))
     have z3 := zt hr8 3
     have z4 := zt hr8 4
     have Hr8 := ihq hr8
     clear hown8 ht8 hr8 hbk8
     refine hK.out _ _ (fun _ => (And.intro f3 (And.intro f4 f5))) ?_
     clear hHeld
     have hHeld := (And.intro f3 (And.intro f4 f5))
     clear hK K
     try simp only [Act.put, iq1, iq2, iq3, iq4, iq5, iq6]
     refine zn (i := 12) (by kernel_rfl) rfl (fun K hK => ?_)
     (try simp only [iq4, iq5, iq6])
     go_simp
     refine hK.out _ _ (fun h => (by cases h)) ?_
     clear hK K
     try simp only [Act.put, iq1, iq2, iq3, iq4, iq5, iq6]
     refine zn (i := 13) (by kernel_rfl) rfl (fun K hK => ?_)
     (try simp only [iq4, iq5, iq6])
     go_simp
     refine hK.out _ _ (fun h => (by cases h)) ?_
     clear hK K
     try simp only [Act.put, iq1, iq2, iq3, iq4, iq5, iq6]
     refine zn (i := 14) (by kernel_rfl) rfl (fun K hK => ?_)
     (try simp only [iq4, iq5, iq6])
     go_simp
     refine hK.out _ _ (fun h => (by cases h)) ?_
     clear hK K
     try simp only [Act.put, iq1, iq2, iq3, iq4, iq5, iq6]
     refine zu (by kernel_rfl) ?_ _
     go_wp2
     go_meet
     exact two_lists2 (s1 := ⟨A6, r.m.n + 1, c6⟩) Hr8.out Hown3.out Hb5.out (by rw [zW]; exact Hown6.out) Hbk6.out T6.out Hown8.out Ht8.out (by omega) (by omega)
    case rest =>
     obtain ⟨q, hq, hrq, hokq, htq⟩ := hcut
     have hldq := zC (CkAt.of_row hrq)
     have hbc : Below w1.heap.size w1 wc := Hw13.out.trans (htq.below (fun _ e => e) (by have := Hw13.out.size; omega))
     have hid : q.id = r.dat.id := congrArg Chk.id hq
     have hep2 : q.ep = r.dat.ep := congrArg Chk.ep hq
     have hfe := Hkf.out.ep
     have hfid : r.dat.id = c.a := Hfa.out.2.2
     have KR := Vrenew g s i j r.dat q wc (H.out.below hbc) Hf.out Ho.out ⟨Hfa.out.1, Hfa.out.2.1, hid.symm⟩ hokq (by rw [hep2]; exact hfe.1) (by rw [hep2]; exact hfe.2)
     unfold ckA at KR
     have KR' := ihq KR; have Hq := ihq hq; have Hbc := ihq hbc
     clear hq hrq hokq htq hid hep2 hfe hfid KR hbc d3 d4 d5 g3 g4 g5 hw5
     go_wp2_with (go_at_call 83; refine KR'.out.mono ?_; rintro e w10 ⟨rfl, hst10, ht10⟩; have Hst := ihq hst10; have Ht := ihq ht10; clear hst10 ht10)
     go_ret
     refine ⟨rfl, fun _ => ?_, (Turned.of_below (p := fun k => k = g) (Hb1.out.trans (Hbc.out.mono Hb1.out.size))).trans Ht.out (fun _ e => e) (fun _ _ e => e)⟩
     have := Hst.out
     rw [Hq.out] at this
     exact this
   ·rw [if_neg hb]
    have Hb := ihq hb
    clear hb
    go_enter Tryz.func47, Tryz.ntmps47
    go_wp2_with fail
    refine KE.out.mono ?_
    rintro e w2 ⟨r, rfl, rfl, hown, hb2⟩
    unfold ckA
    obtain ⟨wz, w3, hwz, hst9, hb3, hr3⟩ := yq w2 r
    have hown3 := hown.below hb3
    have hml : r.ms.length <= 16 := Hkf.out.ml
    have hjl : r.js.length <= 16 := Hkf.out.jl
    have KH := Yv r.j r.js c.c w3 hown3.ok.j (by omega)
    have hb13 := hb2.trans (hb3.mono hb2.size)
    have hr13 := za Hr1.out hb13
    have x3 : w3.cell? ⟨w.heap.size, 3, none⟩ = some (.int .i64 c.c) := zc hr13 3
    have y4 : w3.cell? ⟨w2.heap.size, 4, none⟩ = some (.slice r.j.A r.j.n r.j.c) := zc hr3 4
    have Hb13 := ihq (Hb1.out.trans (hb13.mono Hb1.out.size)); have Hr13 := ihq hr13; have Hw13 := ihq hb13; have Hr3 := ihq hr3; have Hown3 := ihq hown3
    have hs1 : w1.heap.size <= w2.heap.size := hb2.size
    have hsw : w.heap.size < w1.heap.size := (Array.getElem?_eq_some_iff.1 Hr1.out).1
    rw [show decide (c.c ∈ r.js) = false from decide_eq_false Hb.out] at KH
    replace KH := ihq KH
    clear hown hb2 hb3 hr3 hown3 hb13 hr13 c1 c2 hw1
    go_wp2_with (go_at_call 85; refine KH.out.mono ?_; rintro e w4 ⟨rfl, rfl⟩)
    go_ret
    exact yC.err Hb13.out (by decide)
end Go.Proofs.YteebkolccbcehaaGreat
end
