/-
  Contracts of block's Sum, Bytes, Load: of any content, of any bytes. Conditions: what each names.
-/
import Derived.Test.YteebkolccbcehaaBlkSum
import Derived.Test.YteebkolccbcehaaCrcF
import Derived.Deep.RegionHeld3
import Derived.Stop.BytesEq
import Derived.Test.YteebkolccbcehaaHeldT
namespace Go.Proofs.Yteebkolccbcehaa
open Go.ChangeShapes Go.WideShapes Go.ChangeAt Go.RowKit
set_option linter.unusedVariables false
set_option linter.unusedSimpArgs false

theorem BBytes_any (g : Nat) (l : List UInt8) (w : World) (h : CtAt w g l) :
    Calls Try.prog 14 #[.pointer (some ⟨g, 0, none⟩)] w (OwnRet 5 (bytesV (sealOf l)) w) := by
  have hlen := h.len
  have K := Lib.hid (whole_any g l w h)
  clear h
  go_enter Try.func14, Try.ntmps14
  go_wp2_with fail
  refine K.out.mono ?_
  rintro e w1 ⟨A, c, rfl, hown, hb⟩
  have K2 := Lib.hid (Seal_n A (bytesV l).length c l w1 (bytes_length l).symm (Seen.of_own hown) (by rw [bytes_length]; omega))
  have Hb := Lib.hid hb
  clear hown hb
  go_wp2_with fail
  refine K2.out.mono ?_
  rintro e w2 ⟨A2, c2, rfl, hown2, hb2⟩
  have B2 := Lib.hid (Hb.out.trans (hb2.mono Hb.out.size)); have O2 := Lib.hid (own_base hown2 Hb.out.size)
  clear hown2 hb2
  go_wp2
  go_ret
  exact ⟨A2, c2, rfl, O2.out, B2.out⟩
theorem BSum_any (g : Nat) (l : List UInt8) (w : World) (h : CtAt w g l) :
    Calls Try.prog 18 #[.pointer (some ⟨g, 0, none⟩)] w fun e w' => e = .returned (.int .u32 ((crcOf l : Nat) : Int)) ∧ Below w.heap.size w w' := by
  have hlen := h.len
  have K := Lib.hid (whole_any g l w h)
  obtain ⟨q, hq⟩ : ∃ q, crcOf l = q := ⟨_, rfl⟩
  have Hq := Lib.hid hq
  rw [hq]
  clear h hq
  go_enter Try.func18, Try.ntmps18
  go_wp2_with fail
  refine K.out.mono ?_
  rintro e w1 ⟨A, c, rfl, hown, hb⟩
  have B1 := Lib.hid ((hb.alloc hb.size (.cells #[.slice A (bytesV l).length c] 28)))
  have K2 := Lib.hid (Sum_one A (bytesV l).length c 1 l (w1.alloc (.cells #[.slice A (bytesV l).length c] 28)) w1.heap.size (bytes_length l).symm (cell_of_row _ _ _ _ _ _ (heap_alloc_new _ _)) ((Seen.of_own hown).alloc _) (by rw [bytes_length]; omega))
  clear hown hb
  go_wp2_with fail
  refine K2.out.mono ?_
  rintro e w2 ⟨rfl, hb2⟩
  have B2 := Lib.hid (B1.out.trans (hb2.mono B1.out.size))
  clear hb2
  rw [Hq.out]
  go_wp2
  go_ret
  exact ⟨rfl, B2.out⟩
def z128 : List UInt8 := List.replicate 128 0
theorem zc_run (w : World) : (zeroValue 27).run Try.prog w = .ok (.agg (bytesV z128).toArray) w := by kernel_rfl
/-- loads and stores of a content, loads of sealed bytes: behind names -/
def ldC (p : Value) : Sem Value := Instr.loadAt 27 p
theorem ldC_eq (p : Value) : Instr.loadAt 27 p = ldC p := rfl
def stC (p v : Value) : Sem Unit := Instr.storeAt 27 p v
theorem stC_eq (p v : Value) : Instr.storeAt 27 p v = stC p v := rfl
def ldS (p : Value) : Sem Value := Instr.loadAt 56 p
theorem ldS_eq (p : Value) : Instr.loadAt 56 p = ldS p := rfl
theorem ct_und : Try.prog.underlying 27 = some (.struct (Try.prog.fieldsOf 27)) := by kernel_rfl
theorem s132_und : Try.prog.underlying 56 = some (.array 132 5) := by kernel_rfl
theorem s132_size : (Try.prog.info? 56).map (·.size) = some 132 := by kernel_rfl
theorem ldC_run {w : World} {g : Nat} {l : List UInt8} (h : CtAt w g l) : (ldC (.pointer (some ⟨g, 0, none⟩))).run Try.prog w = .ok (.agg (bytesV l).toArray) w :=
  run_loadAt_mid w g 0 _ _ _ (fun j v hv => by rw [row_cell h.blk, Nat.zero_add, List.getElem?_toArray]; exact hv) ct_und rfl (by rw [ct_size, bytes_length, h.len])
theorem stC_run {w : World} {g : Nat} {l m : List UInt8} (h : CtAt w g l) (hm : m.length = 128) : (stC (.pointer (some ⟨g, 0, none⟩)) (.agg (bytesV m).toArray)).run Try.prog w = .ok () (w.setRow g (bytesV m).toArray) := by
  unfold stC
  simp only [Instr.storeAt, Instr.sureAddr, Sem.run_bind, Sem.run_pure, Result.andThen_ok]
  exact run_storeVar_row (P := Try.prog) w g _ _ _ _ h.blk (by rw [ct_size]; simp [bytes_length, hm]) (by simp [bytes_length, hm, h.len]) (all_oneCell_toArray (bytes_one _))
theorem stC_new {m : List UInt8} (hm : m.length = 128) (w : World) : (stC (.pointer (some ⟨w.heap.size, 0, none⟩)) (.agg (bytesV m).toArray)).run Try.prog (w.alloc (.cells (bytesV z128).toArray 27)) = .ok () (w.alloc (.cells (bytesV m).toArray 27)) :=
  run_storeAt_new w _ (bytesV z128).toArray (bytesV m).toArray (by rw [ct_size]; simp [bytes_length, hm]) (by simp [bytes_length, hm, z128]) (all_oneCell_toArray (bytes_one _))
theorem CtAt.new {m : List UInt8} (hm : m.length = 128) (w : World) : CtAt (w.alloc (.cells (bytesV m).toArray 27)) w.heap.size m := ⟨hm, heap_alloc_new w _⟩
theorem ldS_run {w : World} {b o : Nat} {bs : List UInt8} (h : w.rangeAt b o (bytesV bs)) (hl : bs.length = 132) : (ldS (.pointer (some ⟨b, o, none⟩))).run Try.prog w = .ok (.agg (bytesV bs).toArray) w :=
  run_loadAt_mid w b o _ _ _ h s132_und rfl (by rw [s132_size, bytes_length, hl])
theorem s132_arr (A : Option Addr) (c : Nat) (w : World) : (Instr.arrayAt 56 (.slice A 132 c)).run Try.prog w = .ok (.pointer A) w := by
  simp [Instr.arrayAt, run_underlying s132_und]
theorem ne132_run {xs ys : List UInt8} (hx : xs.length = 132) (hy : ys.length = 132) (w : World) : (binOp .neq 56 (.agg (bytesV xs).toArray) (.agg (bytesV ys).toArray)).run Try.prog w = .ok (.bool (!decide (xs = ys))) w := by
  rw [run_neq_struct]
  have := run_equalIn_bytes (P := Try.prog) w 9998 56 5 132 s132_und Try.underlying5 (fun w => by kernel_rfl) xs ys hx hy
  rw [show (bytesV xs) = xs.map Extern.Stop.cell from rfl, show (bytesV ys) = ys.map Extern.Stop.cell from rfl, this]
  simp only [Result.andThen_ok]
  rw [show (xs == ys) = decide (xs = ys) from by rw [Bool.eq_iff_iff]; simp]
/-- what Load has laid when k blocks were read -/
def ldK (bs : List UInt8) (k : Nat) : List UInt8 := bs.take (16 * k) ++ List.replicate (128 - 16 * k) 0
theorem ldK_length {bs : List UInt8} {k : Nat} (hb : bs.length = 132) (hk : k ≤ 8) : (ldK bs k).length = 128 := by
  unfold ldK; simp; omega
theorem ldK_step {bs : List UInt8} {k : Nat} (hb : bs.length = 132) (hk : k < 8) : setB (ldK bs k) k (getB bs k) = ldK bs (k + 1) := by
  unfold setB ldK getB
  rw [List.take_left' (by simp; omega)]
  have e : List.drop (16 * k + 16) (List.take (16 * k) bs ++ List.replicate (128 - 16 * k) (0 : UInt8)) = List.replicate (128 - 16 * (k + 1)) 0 := by
    have hm : (List.take (16 * k) bs).length = 16 * k := by rw [List.length_take, hb]; omega
    rw [List.drop_append, List.drop_of_length_le (by omega), List.nil_append, List.drop_replicate]
    congr 1
    rw [hm]
    omega
  rw [e, show 16 * (k + 1) = 16 * k + 16 by omega, List.take_add]
/-- are they a content's bytes -/
def okB (bs : List UInt8) : Bool := openB bs && decide (bs.length = 132)
theorem okB_yes {bs : List UInt8} (h : bs.length = 132) : okB bs = decide (sealOf (bs.take 128) = bs) := by
  unfold okB
  rw [openB_same (n := 128) h, decide_eq_true h, Bool.and_true]
theorem okB_no {bs : List UInt8} (h : bs.length ≠ 132) : okB bs = false := by
  unfold okB
  rw [decide_eq_false h, Bool.and_false]
theorem results_cell_2 {P : Program} {fn : Func} {p u : Tmp} {ty : TypeId} (h : fn.results = #[.cell p ty, .tmp u]) (tmps : Array Value) (w : World) (g : Nat) (t : TypeId) (cs : Array Value) (fr : Nat × Nat) (d : TypeDesc) (b : Value)
    (hp : tmps.getD p undef = .pointer (some ⟨g, 0, none⟩)) (hb : tmps.getD u undef = b) (hg : w.heap[g]? = some (.cells cs t fr))
    (hu : P.underlying ty = some d) (hd : (match d with | .struct _ | .array _ _ => true | _ => false) = true) (hi : (P.info? ty).map (·.size) = some cs.size) :
    (results fn tmps).run P w = .ok (.tuple #[.agg cs, b]) w := by
  rw [results_cell_tmp h, hp, hb]
  simp [asAddr, run_loadVar_row w g t ty cs fr d hg hu hd hi, Result.andThen]

theorem b16_arr_n (A : Option Addr) (n c : Nat) (h : 16 ≤ n) (w : World) : (Instr.arrayAt 24 (.slice A n c)).run Try.prog w = .ok (.pointer A) w := by
  have h' : ¬ n < 16 := by omega
  simp [Instr.arrayAt, run_underlying b16_und, h']
theorem ldS_own {w : World} {base : Nat} {A : Option Addr} {c n : Nat} {bs : List UInt8} (h : w.ownsRow base 5 1 (.slice A n c) n (bytesV bs)) (hl : bs.length = 132) : ∃ g o, A = some ⟨g, o, none⟩ ∧ (ldS (.pointer (some ⟨g, o, none⟩))).run Try.prog w = .ok (.agg (bytesV bs).toArray) w := by
  rcases Seen.of_own h with h0 | ⟨g, o, hA, hc⟩
  · have := congrArg List.length h0; simp [bytes_length, hl] at this
  · exact ⟨g, o, hA, ldS_run hc hl⟩
/-- what Load hands back -/
def LoadRet (bs : List UInt8) (w : World) (e : Ending) (w' : World) : Prop :=
  e = .returned (.tuple #[.agg (bytesV (if okB bs then bs.take 128 else z128)).toArray, .bool (okB bs)]) ∧ Below w.heap.size w w'
attribute [local go_sem ↓] ldB_eq stB_eq ldBs_eq ldC_eq stC_eq ldS_eq
set_option maxRecDepth 100000 in
set_option maxHeartbeats 2000000 in
theorem BLoad_no (A : Option Addr) (n c : Nat) (bs : List UInt8) (w : World) (hn : bs.length = n) (h : n ≠ 132) :
    Calls Try.prog 13 #[.slice A n c] w (LoadRet bs w) := by
  unfold LoadRet
  rw [okB_no (by omega)]
  simp only [Bool.false_eq_true, if_false]
  have hn' : ((n : Int) == 132) = false := by rw [beq_eq_false_iff_ne]; omega
  have hz := zc_run
  have hst := stC_new (m := z128) rfl w
  clear hn
  go_enter Try.func13, Try.ntmps13
  go_wp2
  refine bodyPost_ret (results_cell_2 rfl _ _ w.heap.size 27 (bytesV z128).toArray (0, 0) _ (.bool false) rfl rfl (heap_alloc_new w _) ct_und rfl (by rw [ct_size]; rfl)) rfl ⟨rfl, (Below.refl _ w).alloc (Nat.le_refl _) _⟩
set_option maxRecDepth 100000 in
set_option maxHeartbeats 4000000 in
theorem BLoad_132 (A : Option Addr) (c : Nat) (bs : List UInt8) (w : World) (hn : bs.length = 132) (hc : 132 ≤ c) (hcm : c ≤ maxLen) (hs : Seen w A (bytesV bs)) :
    Calls Try.prog 13 #[.slice A 132 c] w (LoadRet bs w) := by
  unfold maxLen at hcm
  obtain ⟨p, q, rfl⟩ : ∃ p q, A = some ⟨p, q, none⟩ := by
    rcases hs with h0 | ⟨p, q, hA, _⟩
    · have := congrArg List.length h0; simp [bytes_length, hn] at this
    · exact ⟨p, q, hA⟩
  have Hs := Lib.hid hs
  have Hn := Lib.hid hn
  have hz := zc_run
  have hw2 : Below w.heap.size w ((w.alloc (.cells (bytesV z128).toArray 27)).alloc (.cells (bytesV z128).toArray 27)) := ((Below.refl _ w).alloc (Nat.le_refl _) _).alloc (by simp) _
  obtain ⟨W, hW⟩ : ∃ W, (w.alloc (.cells (bytesV z128).toArray 27)).alloc (.cells (bytesV z128).toArray 27) = W := ⟨_, rfl⟩
  have HR := Lib.hid (show CtAt W w.heap.size z128 from hW ▸ (CtAt.new (m := z128) rfl w).below ((Below.refl _ _).alloc (Nat.le_refl _) _))
  have HC := Lib.hid (show CtAt W (w.heap.size + 1) z128 from by have := CtAt.new (m := z128) rfl (w.alloc (.cells (bytesV z128).toArray 27)); rw [hW] at this; simpa using this)
  rw [hW] at hw2
  have HW := Lib.hid hw2
  clear hn hs hw2
  go_enter Try.func13, Try.ntmps13
  go_wp2
  go_loopw [10] (fun iv wr => ∃ k : Nat, k ≤ 8 ∧ iv = .int .i64 (k : Int) ∧ CtAt wr (w.heap.size + 1) (ldK bs k) ∧ Turned (fun b => b = w.heap.size + 1) W wr) (fun iv _ => 8 - (intOf iv).toNat)
  case atStart => exact ⟨0, by omega, rfl, HC.out, .refl _ _⟩
  case round =>
    obtain ⟨k, hk, rfl, hct, htu⟩ := hrel
    have Hct := Lib.hid hct; have Htu := Lib.hid htu
    have hbw : Below w.heap.size w wr := HW.out.trans (htu.below (fun b e => by omega) HW.out.size)
    have Hbw := Lib.hid hbw
    by_cases hlt : k < 8
    · have k8 : (k : Int) < 8 := by omega
      have k0 : (0 : Int) ≤ (k : Int) := by omega
      have hs1 := Seen.range (Hs.out.below (hbw.mono (Nat.le_refl _)))
      have h16 : (getB bs k).length = 16 := by unfold getB; have := Hn.out; simp; omega
      have hld : wr.rangeAt p (q + k * 16) (bytesV (getB bs k)) := fun j v hv => by
        unfold bytesV getB at hv
        rw [List.getElem?_map, List.getElem?_take] at hv
        split at hv
        · rw [List.getElem?_drop] at hv
          rw [Nat.add_assoc]
          refine hs1 _ v ?_
          rw [bytesV, List.getElem?_map, Nat.mul_comm]
          exact hv
        · cases hv
      have hld := ldB_run hld h16
      have hst := stB_run hct hlt h16
      rw [ldK_step Hn.out hlt] at hst
      have hct2 := Lib.hid (hct.put (ldK_length Hn.out (show k + 1 ≤ 8 by omega)))
      obtain ⟨b, hb⟩ : ∃ b, getB bs k = b := ⟨_, rfl⟩
      rw [hb] at hld hst
      have ha := b16_arr_n (some ⟨p, q + k * 16, none⟩) (132 - k * 16) (c - k * 16) (by omega)
      clear hs1 h16 hb hct htu hbw
      go_wp2
      go_roundw
      case rel => exact ⟨k + 1, by omega, by go_num, hct2.out, Htu.out.trans (turned_row _ _ _) (fun _ e => e) (fun _ _ e => e)⟩
      case measure => simp [intOf]; omega
    · obtain rfl : k = 8 := by omega
      have e8 : ldK bs 8 = bs.take 128 := by unfold ldK; simp
      have h8 : (bs.take 128).length = 128 := by have := Hn.out; simp; omega
      rw [e8] at hct
      have KB := Lib.hid (fun V (hb : Below wr.heap.size wr V) => BBytes_any (w.heap.size + 1) (bs.take 128) V (hct.below hb))
      have Hct8 := Lib.hid hct
      have hsl : (sealOf (bs.take 128)).length = 132 := by rw [sealOf_length, h8]
      have Hsl := Lib.hid hsl
      have hs1 := Seen.range (Hs.out.below hbw)
      have hlt' : p < wr.heap.size := by
        have h0 : (0 : Nat) < (bytesV bs).length := by rw [bytes_length, Hn.out]; omega
        have := hs1 0 _ (List.getElem?_eq_getElem h0)
        exact block_lt_of_cell this
      have hok := okB_yes Hn.out
      have hne : ∀ V : World, (binOp .neq 56 (.agg (bytesV (sealOf (bs.take 128))).toArray) (.agg (bytesV bs).toArray)).run Try.prog V = .ok (.bool (!okB bs)) V := fun V => by rw [hok]; exact ne132_run hsl Hn.out V
      have hld : ∀ V : World, Below wr.heap.size wr V → (ldS (.pointer (some ⟨p, q, none⟩))).run Try.prog V = .ok (.agg (bytesV bs).toArray) V := fun V hb => ldS_run (fun j v hv => (hb.cell (p := ⟨p, q + j, none⟩) hlt').trans (hs1 j v hv)) Hn.out
      have HR8 := Lib.hid ((HR.out.turned Htu.out (by omega)))
      obtain ⟨sl, hsle⟩ : ∃ sl, sealOf (bs.take 128) = sl := ⟨_, rfl⟩
      rw [hsle] at hne KB Hsl
      have ha := fun c => s132_arr (some ⟨p, q, none⟩) c
      have ha2 := s132_arr
      obtain ⟨xs, hxs⟩ : ∃ xs, bs.take 128 = xs := ⟨_, rfl⟩
      rw [hxs] at Hct8
      have Hxs := Lib.hid hxs
      clear hct htu hbw hs1 hsl h8 e8 hok hsle hxs
      go_upto_region 9 with fail
      refine wp_region_T (S := (fun V => Below wr.heap.size wr V)) 6 (by kernel_rfl) ?_
      have hHeld := (Below.refl wr.heap.size wr).drew
      refine wpAnyT_take (i := 3) (v := .slice (some ⟨p, q, none⟩) 132 c) rfl (by kernel_rfl) (by kernel_rfl) (by kernel_rfl) (by kernel_rfl) (by kernel_rfl) (by rfl) (by rfl) (fun _ _ _ h => h) (Or.inl ⟨by rfl, ?hy1⟩) hHeld ?rest1
      case hy1 => (intro w' hS; have hldS := hld w' hS; (try simp only [List.getElem_toArray, List.getElem_cons_succ, List.getElem_cons_zero]); go_simp; try with_reducible rfl)
      try simp only [Act.put, List.setIfInBounds_toArray, List.set_cons_zero, List.set_cons_succ, List.getElem_toArray, List.getElem_cons_succ, List.getElem_cons_zero]
      refine wpAnyT_take (i := 4) (v := .pointer (some ⟨p, q, none⟩)) rfl (by kernel_rfl) (by kernel_rfl) (by kernel_rfl) (by kernel_rfl) (by kernel_rfl) (by rfl) (by rfl) (fun _ _ _ h => h) (Or.inl ⟨by rfl, ?hy2⟩) hHeld ?rest2
      case hy2 => (intro w' hS; have hldS := hld w' hS; (try simp only [List.getElem_toArray, List.getElem_cons_succ, List.getElem_cons_zero]); go_simp; try with_reducible rfl)
      try simp only [Act.put, List.setIfInBounds_toArray, List.set_cons_zero, List.set_cons_succ, List.getElem_toArray, List.getElem_cons_succ, List.getElem_cons_zero]
      refine wpAnyT_take (i := 5) (v := .agg (bytesV bs).toArray) rfl (by kernel_rfl) (by kernel_rfl) (by kernel_rfl) (by kernel_rfl) (by kernel_rfl) (by rfl) (by rfl) (fun _ _ _ h => h) (Or.inl ⟨by rfl, ?hy3⟩) hHeld ?rest3
      case hy3 => (intro w' hS; have hldS := hld w' hS; (try simp only [List.getElem_toArray, List.getElem_cons_succ, List.getElem_cons_zero]); go_simp; try with_reducible rfl)
      try simp only [Act.put, List.setIfInBounds_toArray, List.set_cons_zero, List.set_cons_succ, List.getElem_toArray, List.getElem_cons_succ, List.getElem_cons_zero]
      refine wpAnyT_one (i := 0) (by kernel_rfl) rfl (fun K hK => ?_)
      (try simp only [List.getElem_toArray, List.getElem_cons_succ, List.getElem_cons_zero])
      go_simp
      refine (KB.out _ hHeld).mono ?_
      rintro e v1 ⟨A1, c1, rfl, hown1, hb1⟩
      have hbA : Below wr.heap.size wr v1 := hHeld.trans hb1
      obtain ⟨g1, o1, rfl, hlS⟩ := ldS_own hown1 Hsl.out
      have el : (bytesV sl).length = 132 := (bytes_length sl).trans Hsl.out
      rw [el]
      clear hown1 hb1 el
      refine hK.out _ _ (fun _ => hbA) ?_
      clear hK K
      try simp only [Act.put, List.setIfInBounds_toArray, List.set_cons_zero, List.set_cons_succ, List.getElem_toArray, List.getElem_cons_succ, List.getElem_cons_zero]
      refine wpAnyT_one (i := 1) (by kernel_rfl) rfl (fun K hK => ?_)
      (try simp only [List.getElem_toArray, List.getElem_cons_succ, List.getElem_cons_zero])
      go_simp
      refine hK.out _ _ (fun _ => hbA) ?_
      clear hK K
      try simp only [Act.put, List.setIfInBounds_toArray, List.set_cons_zero, List.set_cons_succ, List.getElem_toArray, List.getElem_cons_succ, List.getElem_cons_zero]
      refine wpAnyT_one (i := 2) (by kernel_rfl) rfl (fun K hK => ?_)
      (try simp only [List.getElem_toArray, List.getElem_cons_succ, List.getElem_cons_zero])
      go_simp
      refine hK.out _ _ (fun _ => hbA) ?_
      clear hK K
      try simp only [Act.put, List.setIfInBounds_toArray, List.set_cons_zero, List.set_cons_succ, List.getElem_toArray, List.getElem_cons_succ, List.getElem_cons_zero]
      refine wpAnyT_one (i := 6) (by kernel_rfl) rfl (fun K hK => ?_)
      (try simp only [List.getElem_toArray, List.getElem_cons_succ, List.getElem_cons_zero])
      go_simp
      refine hK.out _ _ (fun _ => by first | exact hbA | (rename_i h; cases h)) ?_
      clear hK K
      try simp only [Act.put, List.setIfInBounds_toArray, List.set_cons_zero, List.set_cons_succ, List.getElem_toArray, List.getElem_cons_succ, List.getElem_cons_zero]
      refine wpAnyT_done (by kernel_rfl) ?_ _
      have hr1 := HR8.out.below hbA
      have hc1 := Hct8.out.below hbA
      have hB1 := Lib.hid (Hbw.out.trans (hbA.mono Hbw.out.size))
      cases hok : okB bs with
      | true =>
        have hlc := ldC_run hc1
        have hsc := stC_run hr1 hc1.len
        have Hend := Lib.hid (hr1.put hc1.len).blk
        have HlC := Lib.hid hc1.len
        have Hok := Lib.hid hok
        clear hr1 hc1 hbA hlS hHeld hok
        go_wp2
        refine bodyPost_ret (results_cell_2 rfl _ _ w.heap.size 27 (bytesV xs).toArray (0, 0) _ (.bool true) rfl rfl Hend.out ct_und rfl (by rw [ct_size]; simp [bytes_length, HlC.out])) rfl ⟨?_, ?_⟩
        · rw [Hok.out, if_pos rfl, Hxs.out]
        · exact hB1.out.trans ((turned_row v1 w.heap.size _).below (fun k e => by omega) hB1.out.size)
      | false =>
        have hsc := stC_run hr1 (m := z128) rfl
        have Hend := Lib.hid (hr1.put (l' := z128) rfl).blk
        have Hok := Lib.hid hok
        clear hr1 hc1 hbA hlS hHeld hok
        go_wp2
        refine bodyPost_ret (results_cell_2 rfl _ _ w.heap.size 27 (bytesV z128).toArray (0, 0) _ (.bool false) rfl rfl Hend.out ct_und rfl (by rw [ct_size]; rfl)) rfl ⟨?_, ?_⟩
        · rw [Hok.out]; rfl
        · exact hB1.out.trans ((turned_row v1 w.heap.size _).below (fun k e => by omega) hB1.out.size)
theorem BLoad_any (A : Option Addr) (n c : Nat) (bs : List UInt8) (w : World) (hn : bs.length = n) (hc : n ≤ c) (hcm : c ≤ maxLen) (hs : Seen w A (bytesV bs)) :
    Calls Try.prog 13 #[.slice A n c] w (LoadRet bs w) := by
  by_cases h : n = 132
  · subst h
    exact BLoad_132 A c bs w hn hc hcm hs
  · exact BLoad_no A n c bs w hn h
end Go.Proofs.Yteebkolccbcehaa
