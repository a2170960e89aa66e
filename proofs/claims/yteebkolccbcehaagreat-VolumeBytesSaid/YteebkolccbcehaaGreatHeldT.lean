/-
  A region that draws its order, with a condition S on the world that need only hold till operation number t comes up (the first of its stores): loads that t waits for may be taken first. It speaks of no program of ours. No condition but what each lemma names.
-/
import Derived.Deep.RegionHeld
set_option linter.all false
namespace Go.Proofs.YteebkolccbcehaaGreat
open Go
section
variable {P : Program} {ops : Array Oper} {Q : Exit -> Act -> World -> Prop} {md : Region.Mode} {S : World -> Prop} {t : Nat}
def xx (P : Program) (md : Region.Mode) (ops : Array Oper) (Q : Exit -> Act -> World -> Prop) (S : World -> Prop) (t : Nat) : Nat -> Array Bool -> Act -> World -> Prop
 | 0, listed, a, w => Region.ready md ops listed = [] /\ Q .normal a w
 | fuel + 1, listed, a, w =>
  (Region.ready md ops listed = [] -> Q .normal a w) /\
  ∀ i ∈ Region.ready md ops listed, wpOp P ops Q i (fun a' w' => ((listed.setIfInBounds i true).getD t true = false -> S w') /\ xx P md ops Q S t fuel (listed.setIfInBounds i true) a' w') a w
theorem XM : ∀ (fuel : Nat) (listed : Array Bool) (a : Act) (w : World), xx P md ops Q S t fuel listed a w -> wpAny P md ops Q fuel listed a w
 | 0, _, _, _, h => h
 | fuel + 1, _, _, _, h => ⟨h.1, fun i hi => wpOp_mono (fun a' w' h' => XM fuel _ a' w' h'.2) (h.2 i hi)⟩
def YP (md : Region.Mode) (ops : Array Oper) (i : Nat) : Nat -> Nat -> Bool
 | 0, _ => false
 | n + 1, t => match ops[t]? with
  | some o => o.after.any fun e => Region.binds md e && (decide (e.on = i) || YP md ops i n e.on)
  | none => false
def Xq (md : Region.Mode) (ops : Array Oper) (listed : Array Bool) : Prop := ∀ (j : Nat) (o : Oper), ops[j]? = some o -> listed.getD j false = true -> ∀ e ∈ o.after, Region.binds md e = true -> listed.getD e.on false = true
def Y7 (md : Region.Mode) (ops : Array Oper) (listed : Array Bool) : Bool :=
 (List.range ops.size).all fun j => match ops[j]? with
  | some o => !(listed.getD j false) || o.after.all fun e => !(Region.binds md e) || listed.getD e.on false
  | none => true
theorem QW {listed : Array Bool} (h : Y7 md ops listed = true) : Xq md ops listed := by
 intro j o ho hl e he hb
 unfold Y7 at h
 rw [List.all_eq_true] at h
 have := h j (List.mem_range.2 (Array.getElem?_eq_some_iff.1 ho).1)
 rw [ho] at this
 simp only [hl, Bool.not_true, Bool.false_or, Array.all_eq_true_iff_forall_mem] at this
 have := this e he
 simpa [hb] using this
theorem Xq.set {listed : Array Bool} (h : Xq md ops listed) {j : Nat} (hj : j ∈ Region.ready md ops listed) : Xq md ops (listed.setIfInBounds j true) := by
 intro k o ho hl e he hb
 obtain ⟨hjun, oj, hoj, hall⟩ := mem_ready.1 hj
 by_cases hk : j = k
 ·subst hk
  rw [hoj] at ho
  injection ho with ho
  subst ho
  exact getD_set_true (hall e he hb)
 ·rw [getD_set_ne false hk] at hl
  exact getD_set_true (h k o ho hl e he hb)
theorem YO {listed : Array Bool} (hc : Xq md ops listed) {i : Nat} : ∀ (n t : Nat) (o : Oper), ops[t]? = some o -> (∀ e ∈ o.after, Region.binds md e = true -> listed.getD e.on false = true) -> YP md ops i n t = true -> listed.getD i false = true
 | 0, _, _, _, _, h => by cases h
 | n + 1, t, o, ho, hall, h => by
  unfold YP at h
  rw [ho] at h
  simp only [Array.any_eq_true'] at h
  obtain ⟨e, he, hb⟩ := h
  simp only [Bool.and_eq_true, Bool.or_eq_true, decide_eq_true_eq] at hb
  have h1 := hall e he hb.1
  rcases hb.2 with rfl | h2
  ·exact h1
  ·cases hk : ops[e.on]? with
   | none =>
    cases n with
    | zero => cases h2
    | succ n => unfold YP at h2; rw [hk] at h2; cases h2
   | some ok => exact YO hc n e.on ok hk (fun e' he' hb' => hc e.on ok hk h1 e' he' hb') h2
theorem YN {i n : Nat} {oi : Oper} {v : Value} (hi : ops[i]? = some oi) (hsel : ∀ (j : Nat) (o : Oper) cs b, ops[j]? = some o -> o.op ≠ .select cs b)
  (hQ : ∀ c a w, Q (.panic c) (a.put oi.dst v) w -> Q (.panic c) a w) (hte : YP md ops i n t = true) (hit : i ≠ t) :
  ∀ (fuel : Nat) (listed : Array Bool) (a : Act) (w : World),
   (∀ j oj, ops[j]? = some oj -> j ≠ i -> listed.getD j true = false -> (∀ e ∈ oj.after, Region.binds md e = true -> e.on ≠ i) -> oi.apart ops oj = true) ->
   i ∈ Region.ready md ops listed -> Xq md ops listed -> listed.getD t true = false -> YieldsIf P ops S oi v a -> S w ->
   xx P md ops Q S t fuel (listed.setIfInBounds i true) (a.put oi.dst v) w -> xx P md ops Q S t (fuel + 1) listed a w := by
 intro fuel
 induction fuel with
 | zero =>
  intro listed a w _ hr _ _ hy hS H
  refine ⟨fun h => (by rw [h] at hr; cases hr), fun j hj => ?_⟩
  by_cases hji : j = i
  ·subst hji; exact hy.wpOp hi hS ⟨fun _ => hS, H⟩
  ·have := ready_mono hj hji
   rw [H.1] at this
   cases this
 | succ fuel ih =>
  intro listed a w hfree hr hcl htl hy hS H
  refine ⟨fun h => (by rw [h] at hr; cases hr), fun j hj => ?_⟩
  by_cases hji : j = i
  ·subst hji; exact hy.wpOp hi hS ⟨fun _ => hS, H⟩
  ·have h1 := H.2 j (ready_mono hj hji)
   obtain ⟨hjun, oj, hoj, hall⟩ := mem_ready.1 hj
   have hno : ∀ b, listed.getD i b = true -> False := fun b h1 => by
    have h0 := (mem_ready.1 hr).1
    rcases Nat.lt_or_ge i listed.size with h' | h'
    ·simp [h'] at h0 h1; rw [h0] at h1; cases h1
    ·simp [Array.getElem?_eq_none h'] at h0
   have hnot : ∀ e ∈ oj.after, Region.binds md e = true -> e.on ≠ i := fun e he hb heq => by
    have h1 := hall e he hb
    rw [heq] at h1
    exact hno _ h1
   have hjt : j ≠ t := fun e => by
    subst e
    exact hno _ (YO hcl n j oj hoj hall hte)
   have h2 := wpOp_putIf hoj (hfree j oj hoj hji hjun hnot) (fun cs b => hsel i oi cs b hi) (fun cs b => hsel j oj cs b hoj) hQ hy h1
   have hfree' : ∀ k ok, ops[k]? = some ok -> k ≠ i -> (listed.setIfInBounds j true).getD k true = false ->
     (∀ e ∈ ok.after, Region.binds md e = true -> e.on ≠ i) -> oi.apart ops ok = true := fun k ok hk hki hun hno => by
    refine hfree k ok hk hki ?_ hno
    by_cases hjk : j = k
    ·subst hjk; exact hjun
    ·rw [getD_set_ne true hjk] at hun; exact hun
   have htl' : (listed.setIfInBounds j true).getD t true = false := by rw [getD_set_ne true hjt]; exact htl
   have htl2 : ((listed.setIfInBounds i true).setIfInBounds j true).getD t true = false := by rw [getD_set_ne true hjt, getD_set_ne true hit]; exact htl
   refine wpOp_mono (fun a' w' h3 => ⟨fun _ => h3.2.1 htl2, ih (listed.setIfInBounds j true) a' w' hfree' (ready_mono hr (Ne.symm hji)) (hcl.set hj) htl' h3.1 (h3.2.1 htl2) ?_⟩) h2
   rw [Array.setIfInBounds_comm _ _ hji]
   exact h3.2.2
theorem wpAnyT_take {i : Nat} {oi : Oper} {v : Value} {fuel : Nat} {listed : Array Bool} {a : Act} {w : World} (hi : ops[i]? = some oi)
  (hs : Region.noSelect ops = true) (hf : Region.free md ops listed i = true) (hr : (Region.ready md ops listed).contains i = true) (hw : YP md ops i 4 t = true) (hcl : Y7 md ops listed = true) (hit : (i == t) = false) (hl : listed.getD t true = false)
  (hQ : ∀ c a w, Q (.panic c) (a.put oi.dst v) w -> Q (.panic c) a w) (hy : YieldsIf P ops S oi v a) (hS : S w)
  (h : xx P md ops Q S t fuel (listed.setIfInBounds i true) (a.put oi.dst v) w) : xx P md ops Q S t (fuel + 1) listed a w :=
 YN hi (Region.noSelect_spec hs) hQ hw (by simpa using hit) fuel listed a w (Region.free_spec hi hf) (by simpa using hr) (QW hcl) hl hy hS h
theorem zi {i : Nat} {oi : Oper} {v : Value} {fuel : Nat} {listed : Array Bool} {a : Act} {w : World} (hi : ops[i]? = some oi)
  (hb : (Region.noSelect ops && (Region.free md ops listed i && ((Region.ready md ops listed).contains i && (YP md ops i 4 t && (Y7 md ops listed && (!(i == t) && !(listed.getD t true))))))) = true)
  (hQ : ∀ c a w, Q (.panic c) (a.put oi.dst v) w -> Q (.panic c) a w) (hy : YieldsIf P ops S oi v a) (hS : S w)
  (h : xx P md ops Q S t fuel (listed.setIfInBounds i true) (a.put oi.dst v) w) : xx P md ops Q S t (fuel + 1) listed a w := by
  simp only [Bool.and_eq_true, Bool.not_eq_true'] at hb
  obtain ⟨h1, h2, h3, h4, h5, h6, h7⟩ := hb
  exact wpAnyT_take hi h1 h2 h3 h4 h5 h6 h7 hQ hy hS h
theorem zn {i : Nat} {o : Oper} {fuel : Nat} {listed : Array Bool} {a : Act} {w : World} (hr : Region.ready md ops listed = [i]) (ho : ops[i]? = some o)
  (h : ∀ K' : Act -> World -> Prop, Shut (∀ a w, ((listed.setIfInBounds i true).getD t true = false -> S w) -> xx P md ops Q S t fuel (listed.setIfInBounds i true) a w -> K' a w) -> if Region.wanted o (yielded ops a.tmps) = true then Oper.wp P o a w K' Q else K' (a.put o.dst undef) w) :
  xx P md ops Q S t (fuel + 1) listed a w := by
 refine ⟨fun h0 => (by rw [hr] at h0; cases h0), fun j hj => ?_⟩
 rw [hr, List.mem_singleton] at hj
 subst hj
 exact wpOp_step ho (fun K' hK => h K' (fun a w hS hW => hK a w ⟨hS, hW⟩))
theorem zu {listed : Array Bool} {a : Act} {w : World} (hr : Region.ready md ops listed = []) (h : Q .normal a w) :
  ∀ fuel, xx P md ops Q S t fuel listed a w
 | 0 => ⟨hr, h⟩
 | _ + 1 => ⟨fun _ => h, by rw [hr]; simp⟩
theorem zU {id : Nat} {a : Act} {w : World} (t : Nat) (hm : P.follows .mixedOrders = true)
  (h : xx P .any ops Q S t ops.size (Array.replicate ops.size false) a w.drew) : (Code.region id ops true).wp P Q a w :=
 wp_region_any hm (XM _ _ _ _ h)
theorem zy {c : Bool} {X E : Prop} (hc : c = true) (h : X) : if c = true then X else E := by rw [if_pos hc]; exact h
end
end Go.Proofs.YteebkolccbcehaaGreat
