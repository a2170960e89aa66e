/-
  A region that draws its order IN A ROUND of a range over a function, whose own operations only read and whose callees may lay blocks and turn none that was there: walked once, in the order of the text, at the class 'whatever world that turned nothing of w'. It speaks of no program of ours. No condition but what each lemma names.
-/
import Derived.Test.YtbfjakchgmdldaaGreatQuietB
import Derived.RangeFuncCalls
import Derived.OrdersIn
namespace Go.Proofs.YtbfjakchgmdldaaGreat
open Go.ChangeShapes Go.WideShapes Go.ChangeAt Go.RowKit
set_option linter.unusedVariables false

def isDefer : Op → Bool
  | .defer _ => true
  | _ => false
section
variable {P : Program} {ops : Array Oper} {md : Region.Mode} {C : World → Prop} {Q : Exit → Act → World → Prop}
theorem oper_in_round {l n : Nat} {o : Oper} {a : Act} {w : World} {v : Value} {K : Act → World → Prop} (ho : isDefer o.op = false) (h : o.quietAt P a C w v) (hK : ∀ w', (w' = w ∨ C w') → K (a.put o.dst v) w') :
    o.wpIn (Fence.wide.inRound l) n P a w K Q := by
  refine ⟨fun _ _ => trivial, ?_⟩
  have he : o.semAt (Fence.wide.inRound l).round a.eval = execOp a.eval o := Oper.semAt_some l _ _ fun c hc => by rw [hc] at ho; cases ho
  rw [he]
  unfold Oper.quietAt Oper.quietUpon at h
  split at h
  · rename_i u w' e
    obtain ⟨rfl, rfl⟩ := h
    rw [e]
    exact hK _ (.inl rfl)
  · rename_i w' e
    obtain ⟨rfl, rfl⟩ := h
    rw [e]
    exact hK _ (.inl rfl)
  · rename_i f args w' e
    obtain ⟨rfl, hc⟩ := h
    rw [e]
    refine ⟨fun h => (by cases h), CallsIn.inRound l ((callsIn_wide.2 hc).mono ?_)⟩
    rintro e w2 ⟨rfl, h2⟩
    exact hK _ (.inr h2)
  · exact h.elim
theorem wpOpIn_round {l n i : Nat} {a : Act} {w : World} {K : Act → Prop} {K' : Act → World → Prop} (hd : ∀ (i : Nat) (o : Oper), ops[i]? = some o → isDefer o.op = false) (hw : C w) (hK : ∀ a' w', C w' → K a' → K' a' w') (h : qOp P ops C i K a) :
    wpOpIn (Fence.wide.inRound l) n P ops Q i K' a w := by
  unfold qOp at h
  unfold wpOpIn
  cases ho : ops[i]? with
  | none => rw [ho] at h; exact hK _ _ hw h
  | some o =>
    rw [ho] at h
    simp only at h ⊢
    split
    · rename_i hwt
      rw [if_pos hwt] at h
      obtain ⟨v, hv, hk⟩ := h
      exact oper_in_round (hd i o ho) (hv w hw) fun w' e => hK _ _ (e.elim (fun e => e ▸ hw) id) hk
    · rename_i hwt
      rw [if_neg hwt] at h
      exact ⟨fun _ _ => trivial, hK _ _ hw h⟩
theorem wpAnyIn_round {l n : Nat} {K : Act → Prop} (hd : ∀ (i : Nat) (o : Oper), ops[i]? = some o → isDefer o.op = false) (hQ : ∀ a w, C w → K a → Q .normal a w) : ∀ (fuel : Nat) (listed : Array Bool) (a : Act) (w : World), C w →
    wpAnyQ P md ops C K fuel listed a → wpAnyIn (Fence.wide.inRound l) n P md ops Q fuel listed a w
  | 0, _, _, _, hw, h => ⟨h.1, hQ _ _ hw h.2⟩
  | fuel + 1, _, _, _, hw, h => ⟨fun h0 => hQ _ _ hw (h.1 h0), fun i hi => wpOpIn_round hd hw (fun a' w' hw' => wpAnyIn_round hd hQ fuel _ a' w' hw') (h.2 i hi)⟩
end
/-- the region in a round -/
theorem wpIn_round_quiet {P : Program} {l0 n id : Nat} {Q : Exit → Act → World → Prop} {a : Act} {w : World} {l : List Oper} (hm : P.follows .mixedOrders = true) (hB : Region.lexB .any l.toArray = true) (hd : l.all (fun o => !isDefer o.op) = true)
    (h : wpQuiet P l.toArray (fun w' => ∃ p : BelowOf w, w' = p.v) (fun a' => ∀ w', (∃ p : BelowOf w, w' = p.v) → Q .normal a' w') l a) : (Code.region id l.toArray true).wpIn (Fence.wide.inRound l0) n P Q a w := by
  have hd' : ∀ (i : Nat) o, l.toArray[i]? = some o → isDefer o.op = false := fun i o ho => by
    have h1 : o ∈ l := by
      rw [List.getElem?_toArray] at ho
      exact List.mem_iff_getElem?.2 ⟨i, ho⟩
    have := List.all_eq_true.1 hd o h1
    simpa using this
  simp only [Region.lexB, Bool.and_eq_true] at hB
  refine wpIn_region_any hm (wpAnyIn_round (C := fun w' => ∃ p : BelowOf w, w' = p.v) (K := fun a' => ∀ w', (∃ p : BelowOf w, w' = p.v) → Q .normal a' w') hd' (fun _ w' hw' h => h w' hw') _ _ _ _ ⟨⟨w.drewN 1, below_drewN (Below.refl _ _) 1⟩, rfl⟩ ?_)
  have := wpAnyQ_lex (C := fun w' => ∃ p : BelowOf w, w' = p.v) (md := .any) hB.1 l 0 (Array.replicate l.toArray.size false) a (by simp) (by simpa using hB.2) h
  simpa using this
end Go.Proofs.YtbfjakchgmdldaaGreat
