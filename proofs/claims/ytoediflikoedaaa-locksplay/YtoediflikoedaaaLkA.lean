/-
  Locks by what they hold alone: who holds a thing, who waits for it, in a row.
-/
import Derived.Test.YtoediflikoedaaaLkSet
namespace Go.Proofs.Ytoediflikoedaaa
open Go Go.Proofs Go.RowKit Go.Shelf
/-- A lock: who, what, alone or not. -/
structure Lk where
  th : Int
  tg : Int
  al : Bool
structure Ta where
  held : Int → Option (List Int × Bool)
  rows : Int → Option (List Lk)
  waits : Int → Option Lk
def Ta.none : Ta := ⟨fun _ => .none, fun _ => .none, fun _ => .none⟩
def holdB (h : Option (List Int × Bool)) (th : Int) : Bool := match h with
  | none => false
  | some x => decide (th ∈ x.1)
def Ta.holds (A : Ta) (th tg : Int) : Bool := holdB (A.held tg) th
/-- Can it stand beside those that hold the thing? -/
def besB (h : Option (List Int × Bool)) (al : Bool) : Bool := match h with
  | none => true
  | some x => !al && !x.2
def putH (h : Option (List Int × Bool)) (l : Lk) : List Int × Bool := match h with
  | none => ([l.th], l.al)
  | some x => (insS l.th x.1, x.2)
def Ta.grant (A : Ta) (l : Lk) : Ta := { A with held := updC A.held l.tg (some (putH (A.held l.tg) l)) }
def Ta.wait (A : Ta) (l : Lk) : Ta := { A with rows := updC A.rows l.tg (some ((A.rows l.tg).getD [] ++ [l])), waits := updC A.waits l.th (some l) }
def Ta.askB (A : Ta) (l : Lk) : Bool := (A.waits l.th).isNone && !A.holds l.th l.tg && ((A.rows l.tg).isNone && besB (A.held l.tg) l.al)
def Ta.ask (A : Ta) (l : Lk) : Ta := if (A.waits l.th).isSome || A.holds l.th l.tg then A else if (A.rows l.tg).isNone && besB (A.held l.tg) l.al then A.grant l else A.wait l
def dropH (h : Option (List Int × Bool)) (th : Int) : Option (List Int × Bool) := match h with
  | none => none
  | some x => if delS th x.1 = [] then none else some (delS th x.1, x.2)
def Ta.drop (A : Ta) (th tg : Int) : Ta := { A with held := updC A.held tg (dropH (A.held tg) th) }
/-- How many of a row are granted, from its beginning on; and who holds the thing then. -/
def runN (h : Option (List Int × Bool)) : List Lk → Nat
  | [] => 0
  | l :: r => if besB h l.al then runN (some (putH h l)) r + 1 else 0
def runH (h : Option (List Int × Bool)) : List Lk → Option (List Int × Bool)
  | [] => h
  | l :: r => if besB h l.al then runH (some (putH h l)) r else h
theorem runN_le (h : Option (List Int × Bool)) (L : List Lk) : runN h L ≤ L.length := by
  induction L generalizing h with
  | nil => simp [runN]
  | cons l r ih =>
    unfold runN
    split
    · have := ih (some (putH h l))
      simp
      omega
    · simp
/-- Those wait no more. -/
def unwait (w : Int → Option Lk) (G : List Lk) : Int → Option Lk := G.foldl (fun w l => updC w l.th none) w
def leftR (o : Option (List Lk)) (n : Nat) : Option (List Lk) := match o with
  | none => none
  | some L => if L.length ≤ n then none else some (L.drop n)
/-- What is granted where a thing is held so. -/
def Ta.run (A : Ta) (tg : Int) : Ta :=
  let h := A.held tg
  let L := (A.rows tg).getD []
  { held := updC A.held tg (runH h L), rows := updC A.rows tg (leftR (A.rows tg) (runN h L)), waits := unwait A.waits (L.take (runN h L)) }
def Ta.runs (A : Ta) (tg : Int) : List Lk := ((A.rows tg).getD []).take (runN (A.held tg) ((A.rows tg).getD []))
def Ta.rel (A : Ta) (th tg : Int) : Ta := if A.holds th tg then (A.drop th tg).run tg else A
def Ta.relL (A : Ta) (th tg : Int) : List Lk := if A.holds th tg then (A.drop th tg).runs tg else []
theorem unwait_eq (w : Int → Option Lk) (G : List Lk) (i : Int) : unwait w G i = if i ∈ G.map Lk.th then none else w i := by
  induction G generalizing w with
  | nil => simp [unwait]
  | cons l r ih =>
    have : unwait w (l :: r) = unwait (updC w l.th none) r := rfl
    rw [this, ih]
    by_cases e : i = l.th
    · subst e
      simp [updC_same]
    · rw [updC_other _ _ e]
      simp [e]
end Go.Proofs.Ytoediflikoedaaa
