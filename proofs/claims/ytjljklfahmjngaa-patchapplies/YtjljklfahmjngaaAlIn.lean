/-
  A region that draws its order inside a round: walked as outside of it.
-/
import Derived.Test.YtjljklfahmjngaaBase
import Derived.RangeFuncCalls
import Derived.OwnWalkIn
namespace Go.Proofs.Ytjljklfahmjngaa
open Go Go.Proofs Go.RowKit Go.Shelf

section
variable {P : Program} {l n : Nat} {ops : Array Oper} {Q : Exit → Act → World → Prop}
theorem rowsIn_wide {row : String} {args : Array Value} {w : World} {R : Value → World → Prop} (h : Rows P row args w R) : RowsIn (Fence.wide.inRound l) n P row args w R :=
  fun c cs _ => let ⟨v, w', r, s⟩ := h c cs; ⟨v, w', r, stepsIn_wide.2 s⟩
theorem callsIn_round {f : FuncId} {args : Array Value} {w : World} {R : Ending → World → Prop} (h : Calls P f args w R) : CallsIn (Fence.wide.inRound l) n P f args w R := (callsIn_wide (n := n)).2 h
/-- What is wanted behind a region, in a form that lets nothing out. -/
def Norm (K : Act → World → Prop) : Exit → Act → World → Prop
  | .normal, a, w => K a w
  | _, _, _ => False
theorem norm_in (K : Act → World → Prop) : ¬ LetsOut (Norm K) := by
  rintro ⟨_, _, h⟩
  exact h
/-- An operation that is no defer statement. -/
theorem operIn_of_oper {o : Oper} {a : Act} {w : World} {K K' : Act → World → Prop} (hp : ∀ c, o.op ≠ .defer c) (hK : ∀ a w, K a w → K' a w) (h : o.wp P a w K (Norm (Q .normal))) : o.wpIn (Fence.wide.inRound l) n P a w K' Q := by
  refine ⟨fun _ _ => trivial, ?_⟩
  rw [Oper.semAt_plain (Fence.wide.inRound l) _ _ hp]
  unfold Oper.wp at h
  generalize (execOp a.eval o).run P w = r at *
  cases r with
  | ok x w' =>
    cases x <;> simp only [Oper.upon, Oper.uponIn] at h ⊢
    case enter f args =>
      refine ⟨fun hd => by simp [Fence.wide] at hd, callsIn_round (Calls.mono h fun e w'' he => ?_)⟩
      cases e with
      | returned v => exact hK _ _ he
      | panicked c => exact he.elim
      | outgrown => exact absurd he (norm_in _)
    case row row args => exact ⟨fun hd => by simp [Fence.wide] at hd, rowsIn_wide (Rows.mono h fun v w'' he => hK _ _ he)⟩
    all_goals first | exact hK _ _ h | exact h.elim
  | halt x w' => cases x <;> simp only [Oper.upon, Oper.uponIn] at h ⊢ <;> first | exact h.elim | exact h
def plainB (ops : Array Oper) : Bool := ops.all (fun o => match o.op with | .defer _ => false | _ => true)
theorem plainB_spec (h : plainB ops = true) (i : Nat) (o : Oper) (ho : ops[i]? = some o) : ∀ c, o.op ≠ .defer c := by
  intro c hc
  have hlt := (Array.getElem?_eq_some_iff.1 ho).1
  have he := (Array.getElem?_eq_some_iff.1 ho).2
  have h1 := Array.all_eq_true.1 h i hlt
  rw [he, hc] at h1
  cases h1
theorem opsIn_of_ops (hp : plainB ops = true) : ∀ (js : List Nat) (a : Act) (w : World), wpOps P ops (Norm (Q .normal)) js a w → wpOpsIn (Fence.wide.inRound l) n P ops Q js a w
  | [], _, _, h => h
  | i :: rest, a, w, h => by
    unfold wpOps at h
    unfold wpOpsIn
    cases ho : ops[i]? with
    | none => rw [ho] at h; exact opsIn_of_ops hp rest a w h
    | some o =>
      rw [ho] at h
      dsimp only at h ⊢
      split
      · rename_i hw
        rw [if_pos hw] at h
        rcases h with h | h
        · exact operIn_of_oper (plainB_spec hp i o ho) (fun a' w' h' => opsIn_of_ops hp rest a' w' h') h
        · exact absurd h.2 (norm_in _)
      · rename_i hw
        rw [if_neg hw] at h
        exact ⟨fun _ _ => trivial, opsIn_of_ops hp rest _ w h⟩
/-- A region that draws its order, inside a round: as outside of it, by what S holds. -/
theorem round_region_held {id : Nat} {a : Act} {w : World} (S : World → Prop) (hm : P.follows .mixedOrders = true) (hp : plainB ops = true) (hS : S w.drew)
    (h : S w.drew → wpAnyH P .any ops (Norm (Q .normal)) S ops.size (Array.replicate ops.size false) a w.drew) : (Code.region id ops true).wpIn (Fence.wide.inRound l) n P Q a w := by
  refine wpIn_region_draw fun t => ?_
  simp only [Region.schedule, hm, Bool.true_or, if_true]
  have h1 := wpAny_sound (P := P) (md := .any) (ops := ops) ops.size t _ a _ (wpAny_of_held _ _ _ _ (h hS))
  exact opsIn_of_ops (l := l) (n := n) hp _ _ _ h1
end
end Go.Proofs.Ytjljklfahmjngaa
