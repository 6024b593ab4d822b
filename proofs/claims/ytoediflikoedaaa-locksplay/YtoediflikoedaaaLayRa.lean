/-
  The reference's locks as two rows, and that they are the table: lists alone.
-/
import Derived.Test.YtoediflikoedaaaLkO
import Derived.Test.YtoediflikoedaaaLkSafe2
import Derived.BigQuiet
namespace Go.Proofs.Ytoediflikoedaaa
open Go Go.Proofs Go.RowKit Go.Shelf
structure Rf where
  held : List Lk
  row : List Lk
def hasB (H : List Lk) (th tg : Int) : Bool := H.any (fun l => l.th == th && l.tg == tg)
def besR (H : List Lk) (l : Lk) : Bool := !H.any (fun h => h.tg == l.tg && (l.al || h.al))
def ofT (tg : Int) (L : List Lk) : List Lk := L.filter (fun l => l.tg == tg)
def Rf.waits (R : Rf) (th : Int) : Option Lk := R.row.find? (fun l => l.th == th)
def Rf.freeB (R : Rf) (l : Lk) : Bool := besR R.held l && !R.row.any (fun h => h.tg == l.tg)
def Rf.askB (R : Rf) (l : Lk) : Bool := !((R.waits l.th).isSome || hasB R.held l.th l.tg) && R.freeB l
def Rf.ask (R : Rf) (l : Lk) : Rf := if (R.waits l.th).isSome || hasB R.held l.th l.tg then R else if R.freeB l then ⟨R.held ++ [l], R.row⟩ else ⟨R.held, R.row ++ [l]⟩
/-- Release's loop over the row: who holds then, who got it, who waits still. -/
def loopR (tg : Int) (H : List Lk) (stop : Bool) : List Lk → List Lk × List Lk × List Lk
  | [] => (H, [], [])
  | l :: r => if l.tg != tg || stop then ((loopR tg H stop r).1, (loopR tg H stop r).2.1, l :: (loopR tg H stop r).2.2) else if besR H l then ((loopR tg (H ++ [l]) stop r).1, l :: (loopR tg (H ++ [l]) stop r).2.1, (loopR tg (H ++ [l]) stop r).2.2) else ((loopR tg H true r).1, (loopR tg H true r).2.1, l :: (loopR tg H true r).2.2)
def lessR (H : List Lk) (th tg : Int) : List Lk := H.filter (fun l => l.th != th || l.tg != tg)
def Rf.rel (R : Rf) (th tg : Int) : Rf := if hasB R.held th tg then ⟨(loopR tg (lessR R.held th tg) false R.row).1, (loopR tg (lessR R.held th tg) false R.row).2.2⟩ else R
def Rf.relL (R : Rf) (th tg : Int) : List Lk := if hasB R.held th tg then (loopR tg (lessR R.held th tg) false R.row).2.1 else []
def Rf.holders (R : Rf) (tg : Int) : List Int := (ofT tg R.held).foldl (fun S l => insS l.th S) []
/-- Who holds thing tg, told by a row. -/
def HdOk (h : Option (List Int × Bool)) (H : List Lk) (tg : Int) : Prop :=
  (h = none ∧ ∀ l ∈ H, l.tg ≠ tg) ∨ ∃ S b, h = some (S, b) ∧ (∃ l ∈ H, l.tg = tg) ∧ (∀ x, x ∈ S ↔ ∃ l ∈ H, l.tg = tg ∧ l.th = x) ∧ ∀ l ∈ H, l.tg = tg → l.al = b
theorem hasB_iff {H : List Lk} {th tg : Int} : hasB H th tg = true ↔ ∃ l ∈ H, l.tg = tg ∧ l.th = th := by
  unfold hasB
  rw [List.any_eq_true]
  constructor
  · rintro ⟨l, hl, h⟩
    simp at h
    exact ⟨l, hl, h.2, h.1⟩
  · rintro ⟨l, hl, h1, h2⟩
    exact ⟨l, hl, by simp [h1, h2]⟩
theorem hd_holds {h : Option (List Int × Bool)} {H : List Lk} {tg : Int} (q : HdOk h H tg) (th : Int) : holdB h th = hasB H th tg := by
  rw [Bool.eq_iff_iff, hasB_iff]
  rcases q with ⟨rfl, q⟩ | ⟨S, b, rfl, _, q, _⟩
  · constructor
    · intro e; cases e
    · rintro ⟨l, hl, h1, _⟩
      exact absurd h1 (q l hl)
  · show decide (th ∈ S) = true ↔ _
    rw [decide_eq_true_iff]
    exact q th
theorem hd_bes {h : Option (List Int × Bool)} {H : List Lk} {l : Lk} (q : HdOk h H l.tg) : besB h l.al = besR H l := by
  unfold besR
  rcases q with ⟨rfl, q⟩ | ⟨S, b, rfl, ⟨l0, h0, e0⟩, _, q⟩
  · have : H.any (fun h => h.tg == l.tg && (l.al || h.al)) = false := by
      rw [List.any_eq_false]
      intro h hh
      simp [q h hh]
    rw [this]
    rfl
  · have : H.any (fun h => h.tg == l.tg && (l.al || h.al)) = (l.al || b) := by
      rw [Bool.eq_iff_iff, List.any_eq_true]
      constructor
      · rintro ⟨h, hh, e⟩
        simp only [Bool.and_eq_true, beq_iff_eq] at e
        rw [q h hh e.1] at e
        exact e.2
      · intro e
        exact ⟨l0, h0, by simp only [Bool.and_eq_true, beq_iff_eq]; exact ⟨e0, by rw [q l0 h0 e0]; exact e⟩⟩
    rw [this]
    simp [besB]
theorem hd_put {h : Option (List Int × Bool)} {H : List Lk} {l : Lk} (q : HdOk h H l.tg) (hb : besB h l.al = true) : HdOk (some (putH h l)) (H ++ [l]) l.tg := by
  refine .inr ⟨(putH h l).1, (putH h l).2, rfl, ⟨l, by simp, rfl⟩, fun x => ?_, fun l' hl' e => ?_⟩
  · have e1 : decide (x ∈ (putH h l).1) = (holdB h x || decide (x = l.th)) := holdB_put h l x
    rw [hd_holds q] at e1
    rw [← decide_eq_true_iff (p := x ∈ (putH h l).1), e1, Bool.or_eq_true, hasB_iff, decide_eq_true_iff]
    constructor
    · rintro (⟨m, hm, a, b⟩ | rfl)
      · exact ⟨m, by simp [hm], a, b⟩
      · exact ⟨l, by simp, rfl, rfl⟩
    · rintro ⟨m, hm, a, b⟩
      rcases List.mem_append.1 hm with hm | hm
      · exact .inl ⟨m, hm, a, b⟩
      · rw [List.mem_singleton.1 hm] at b
        exact .inr b.symm
  · rcases q with ⟨rfl, q⟩ | ⟨S, b, rfl, _, _, q⟩
    · rcases List.mem_append.1 hl' with hm | hm
      · exact absurd e (q l' hm)
      · rw [List.mem_singleton.1 hm]; rfl
    · show l'.al = b
      rcases List.mem_append.1 hl' with hm | hm
      · exact q l' hm e
      · rw [List.mem_singleton.1 hm]
        simp [besB] at hb
        rw [hb.1, hb.2]
theorem hd_more {h : Option (List Int × Bool)} {H : List Lk} {l : Lk} {tg : Int} (q : HdOk h H tg) (ne : l.tg ≠ tg) : HdOk h (H ++ [l]) tg := by
  have mem : ∀ m, m ∈ H ++ [l] → m.tg = tg → m ∈ H := fun m hm e => by
    rcases List.mem_append.1 hm with hm | hm
    · exact hm
    · rw [List.mem_singleton.1 hm] at e; exact absurd e ne
  rcases q with ⟨rfl, q⟩ | ⟨S, b, rfl, ⟨l0, h0, e0⟩, q1, q2⟩
  · exact .inl ⟨rfl, fun m hm e => q m (mem m hm e) e⟩
  · exact .inr ⟨S, b, rfl, ⟨l0, by simp [h0], e0⟩, fun x => (q1 x).trans ⟨fun ⟨m, hm, a, b⟩ => ⟨m, by simp [hm], a, b⟩, fun ⟨m, hm, a, b⟩ => ⟨m, mem m hm a, a, b⟩⟩, fun m hm e => q2 m (mem m hm e) e⟩
theorem mem_less {H : List Lk} {th tg : Int} {l : Lk} : l ∈ lessR H th tg ↔ l ∈ H ∧ ¬ (l.tg = tg ∧ l.th = th) := by
  unfold lessR
  rw [List.mem_filter]
  have : ((l.th != th || l.tg != tg) = true) ↔ ¬ (l.tg = tg ∧ l.th = th) := by
    simp only [Bool.or_eq_true, bne_iff_ne]
    omega
  rw [this]
theorem hd_less {h : Option (List Int × Bool)} {H : List Lk} {th tg : Int} (q : HdOk h H tg) : HdOk (dropH h th) (lessR H th tg) tg := by
  rcases q with ⟨rfl, q⟩ | ⟨S, b, rfl, _, q1, q2⟩
  · exact .inl ⟨rfl, fun l hl => q l (mem_less.1 hl).1⟩
  · have hm : ∀ x, x ∈ delS th S ↔ ∃ l ∈ lessR H th tg, l.tg = tg ∧ l.th = x := fun x => by
      rw [mem_del, q1]
      constructor
      · rintro ⟨⟨l, hl, a, b⟩, ne⟩
        exact ⟨l, mem_less.2 ⟨hl, fun e => ne (by rw [← b]; exact e.2)⟩, a, b⟩
      · rintro ⟨l, hl, a, b⟩
        obtain ⟨c, d⟩ := mem_less.1 hl
        exact ⟨⟨l, c, a, b⟩, fun e => d ⟨a, by rw [b]; exact e⟩⟩
    show HdOk (if delS th S = [] then none else some (delS th S, b)) _ _
    by_cases e : delS th S = []
    · rw [if_pos e]
      refine .inl ⟨rfl, fun l hl et => ?_⟩
      have := (hm l.th).2 ⟨l, hl, et, rfl⟩
      rw [e] at this
      cases this
    · rw [if_neg e]
      obtain ⟨x, hx⟩ := List.exists_mem_of_ne_nil _ e
      obtain ⟨l, hl, a, _⟩ := (hm x).1 hx
      exact .inr ⟨_, b, rfl, ⟨l, hl, a⟩, hm, fun l hl et => q2 l (mem_less.1 hl).1 et⟩
theorem hd_less2 {h : Option (List Int × Bool)} {H : List Lk} {th tg tg' : Int} (q : HdOk h H tg') (ne : tg' ≠ tg) : HdOk h (lessR H th tg) tg' := by
  have mem : ∀ m, m.tg = tg' → (m ∈ lessR H th tg ↔ m ∈ H) := fun m e => by
    rw [mem_less]
    exact ⟨fun h => h.1, fun h => ⟨h, fun q => ne (by rw [← e]; exact q.1)⟩⟩
  rcases q with ⟨rfl, q⟩ | ⟨S, b, rfl, ⟨l0, h0, e0⟩, q1, q2⟩
  · exact .inl ⟨rfl, fun m hm e => q m ((mem m e).1 hm) e⟩
  · exact .inr ⟨S, b, rfl, ⟨l0, (mem l0 e0).2 h0, e0⟩, fun x => (q1 x).trans ⟨fun ⟨m, hm, a, b⟩ => ⟨m, (mem m a).2 hm, a, b⟩, fun ⟨m, hm, a, b⟩ => ⟨m, (mem m a).1 hm, a, b⟩⟩, fun m hm e => q2 m ((mem m e).1 hm) e⟩
theorem loop_stop (tg : Int) (H : List Lk) (L : List Lk) : loopR tg H true L = (H, [], L) := by
  induction L with
  | nil => rfl
  | cons l r ih => unfold loopR; rw [if_pos (by simp), ih]
/-- The loop grants what the table's run grants. -/
theorem loop_run {tg : Int} {h : Option (List Int × Bool)} {H : List Lk} (L : List Lk) (q : HdOk h H tg) :
    (loopR tg H false L).2.1 = (ofT tg L).take (runN h (ofT tg L)) ∧ HdOk (runH h (ofT tg L)) (loopR tg H false L).1 tg ∧ (∀ tg' h', tg' ≠ tg → HdOk h' H tg' → HdOk h' (loopR tg H false L).1 tg') ∧ ofT tg (loopR tg H false L).2.2 = (ofT tg L).drop (runN h (ofT tg L)) ∧ (∀ tg', tg' ≠ tg → ofT tg' (loopR tg H false L).2.2 = ofT tg' L) ∧ (loopR tg H false L).2.2.Sublist L := by
  induction L generalizing h H with
  | nil => exact ⟨by simp [loopR, ofT], q, fun _ _ _ h => h, by simp [loopR, ofT], fun _ _ => rfl, List.Sublist.refl _⟩
  | cons l r ih =>
    by_cases e : l.tg = tg
    · have e1 : ofT tg (l :: r) = l :: ofT tg r := by unfold ofT; rw [List.filter_cons_of_pos (by simp [e])]
      have e2 : ∀ tg', tg' ≠ tg → ofT tg' (l :: r) = ofT tg' r := fun tg' ne => by unfold ofT; rw [List.filter_cons_of_neg (by simp [e]; exact fun h => ne h.symm)]
      subst e
      unfold loopR
      rw [if_neg (by simp), e1, runH_cons, runN_cons, ← hd_bes q]
      by_cases hb : besB h l.al = true
      · rw [if_pos hb, if_pos hb, if_pos hb]
        obtain ⟨a1, a2, a3, a4, a5, a6⟩ := ih (hd_put q hb)
        refine ⟨by rw [a1]; rfl, a2, fun tg' h' ne q' => a3 tg' h' ne (hd_more q' (fun e => ne e.symm)), by rw [a4]; rfl, fun tg' ne => by rw [a5 tg' ne, e2 tg' ne], a6.cons _⟩
      · rw [if_neg hb, if_neg hb, if_neg hb, loop_stop]
        exact ⟨rfl, q, fun _ _ _ h => h, by rw [e1]; rfl, fun tg' ne => rfl, List.Sublist.refl _⟩
    · have e1 : ofT tg (l :: r) = ofT tg r := by unfold ofT; rw [List.filter_cons_of_neg (by simp [e])]
      unfold loopR
      rw [if_pos (by simp [e]), e1]
      obtain ⟨a1, a2, a3, a4, a5, a6⟩ := ih q
      refine ⟨a1, a2, a3, ?_, fun tg' ne => ?_, a6.cons_cons _⟩
      · rw [← a4]
        unfold ofT
        rw [List.filter_cons_of_neg (by simp [e])]
      · have := a5 tg' ne
        unfold ofT at this ⊢
        rw [List.filter_cons, List.filter_cons, this]
/-- The two rows are the table. -/
structure Eqv (R : Rf) (A : Ta) : Prop where
  hd : ∀ tg, HdOk (A.held tg) R.held tg
  rw : ∀ tg, (A.rows tg).getD [] = ofT tg R.row
  nd : (R.row.map Lk.th).Nodup
theorem eqv_none : Eqv ⟨[], []⟩ Ta.none := ⟨fun _ => .inl ⟨rfl, fun l hl => (by cases hl)⟩, fun _ => rfl, by simp⟩
theorem eqv_mem {R : Rf} {A : Ta} (hA : A.Ok) (h : Eqv R A) {l : Lk} : l ∈ R.row ↔ A.waits l.th = some l := by
  have e : l ∈ R.row ↔ l ∈ (A.rows l.tg).getD [] := by
    rw [h.rw, ofT, List.mem_filter]
    simp
  rw [e]
  constructor
  · intro hl
    cases hr : A.rows l.tg with
    | none => rw [hr] at hl; cases hl
    | some M =>
      rw [hr] at hl
      exact ((hA.row _ M hr).2.2.1 l hl).2.2
  · intro hw
    obtain ⟨_, M, hM, hm⟩ := hA.wt _ l hw
    rw [hM]
    exact hm
theorem eqv_waits {R : Rf} {A : Ta} (hA : A.Ok) (h : Eqv R A) (th : Int) : A.waits th = R.waits th := by
  cases hw : A.waits th with
  | some l =>
    have e := (hA.wt th l hw).1
    have hl : l ∈ R.row := (eqv_mem hA h).2 (by rw [e]; exact hw)
    unfold Rf.waits
    cases hf : R.row.find? (fun l => l.th == th) with
    | none =>
      have := List.find?_eq_none.1 hf l hl
      simp [e] at this
    | some m =>
      have h1 := List.mem_of_find?_eq_some hf
      have h2 : m.th = th := by simpa using List.find?_some hf
      have := (eqv_mem hA h).1 h1
      rw [h2, hw] at this
      exact this
  | none =>
    unfold Rf.waits
    symm
    rw [List.find?_eq_none]
    intro l hl e
    have e : l.th = th := by simpa using e
    have := (eqv_mem hA h).1 hl
    rw [e, hw] at this
    cases this
theorem eqv_rows {R : Rf} {A : Ta} (hA : A.Ok) (h : Eqv R A) (tg : Int) : (A.rows tg).isNone = !R.row.any (fun l => l.tg == tg) := by
  have e := h.rw tg
  cases hr : A.rows tg with
  | none =>
    rw [hr] at e
    have : R.row.any (fun l => l.tg == tg) = false := by
      rw [List.any_eq_false]
      intro l hl q
      have : l ∈ ofT tg R.row := by unfold ofT; exact List.mem_filter.2 ⟨hl, q⟩
      rw [← e] at this
      cases this
    rw [this]
    rfl
  | some M =>
    rw [hr] at e
    obtain ⟨l, hl⟩ := List.exists_mem_of_ne_nil _ (hA.row tg M hr).1
    have e : M = ofT tg R.row := e
    rw [e, ofT, List.mem_filter] at hl
    have : R.row.any (fun l => l.tg == tg) = true := List.any_eq_true.2 ⟨l, hl.1, hl.2⟩
    rw [this]
    rfl
theorem eqv_holds {R : Rf} {A : Ta} (h : Eqv R A) (th tg : Int) : A.holds th tg = hasB R.held th tg := hd_holds (h.hd tg) th
theorem eqv_ask {R : Rf} {A : Ta} (hA : A.Ok) (h : Eqv R A) (l : Lk) : A.askB l = R.askB l ∧ Eqv (R.ask l) (A.ask l) := by
  have e1 := eqv_waits hA h l.th
  have e2 := eqv_holds h l.th l.tg
  have e3 : ((A.rows l.tg).isNone && besB (A.held l.tg) l.al) = R.freeB l := by
    unfold Rf.freeB
    rw [eqv_rows hA h, hd_bes (h.hd l.tg), Bool.and_comm]
  refine ⟨?_, ?_⟩
  · unfold Ta.askB Rf.askB
    rw [e3, e1, e2]
    cases R.waits l.th <;> simp
  · unfold Ta.ask Rf.ask
    rw [e3, e1, e2]
    by_cases q : ((R.waits l.th).isSome || hasB R.held l.th l.tg) = true
    · rw [if_pos q, if_pos q]
      exact h
    · rw [if_neg q, if_neg q]
      by_cases q2 : R.freeB l = true
      · rw [if_pos q2, if_pos q2]
        have hb : besB (A.held l.tg) l.al = true := by
          rw [← e3] at q2
          simp only [Bool.and_eq_true] at q2
          exact q2.2
        refine ⟨fun tg => ?_, h.rw, h.nd⟩
        show HdOk (updC A.held l.tg (some (putH (A.held l.tg) l)) tg) _ _
        by_cases e : tg = l.tg
        · subst e
          rw [updC_same]
          exact hd_put (h.hd l.tg) hb
        · rw [updC_other _ _ e]
          exact hd_more (h.hd tg) (fun q => e q.symm)
      · rw [if_neg q2, if_neg q2]
        refine ⟨h.hd, fun tg => ?_, ?_⟩
        · show (updC A.rows l.tg (some ((A.rows l.tg).getD [] ++ [l])) tg).getD [] = ofT tg (R.row ++ [l])
          unfold ofT
          rw [List.filter_append]
          by_cases e : tg = l.tg
          · subst e
            rw [updC_same, h.rw]
            simp [ofT]
          · rw [updC_other _ _ e, h.rw, List.filter_cons_of_neg (by simp; exact fun q => e q.symm)]
            simp [ofT]
        · rw [List.map_append, List.nodup_append]
          refine ⟨h.nd, by simp, fun a ha b hb => ?_⟩
          simp at hb
          subst hb
          obtain ⟨m, hm, rfl⟩ := List.mem_map.1 ha
          intro e
          have := (eqv_mem hA h).1 hm
          rw [e, e1] at this
          rw [this] at q
          simp at q
theorem eqv_rel {R : Rf} {A : Ta} (h : Eqv R A) (p x : Int) : A.relL p x = R.relL p x ∧ Eqv (R.rel p x) (A.rel p x) := by
  have e2 := eqv_holds h p x
  unfold Rf.relL Rf.rel
  cases hh : A.holds p x with
  | false =>
    rw [← e2, hh, (rel_same hh).1, (rel_same hh).2]
    exact ⟨rfl, h⟩
  | true =>
    rw [← e2, hh]
    obtain ⟨r1, r2, r3, r4, _⟩ := rel_at hh
    obtain ⟨a1, a2, a3, a4, a5, a6⟩ := loop_run (h := dropH (A.held x) p) R.row (hd_less (th := p) (h.hd x))
    rw [h.rw x] at r2 r4
    refine ⟨by rw [r4]; exact a1.symm, fun tg => ?_, fun tg => ?_, ?_⟩
    · show HdOk ((A.rel p x).held tg) (loopR x (lessR R.held p x) false R.row).1 tg
      by_cases e : tg = x
      · subst e
        rw [r2]
        exact a2
      · rw [(r1 tg e).1]
        exact a3 tg _ e (hd_less2 (h.hd tg) e)
    · show ((A.rel p x).rows tg).getD [] = ofT tg (loopR x (lessR R.held p x) false R.row).2.2
      by_cases e : tg = x
      · subst e
        rw [r3, a4, h.rw]
        cases hr : A.rows tg with
        | none =>
          have := h.rw tg
          rw [hr] at this
          rw [← this]
          simp [leftR]
        | some M =>
          have := h.rw tg
          rw [hr] at this
          have this : M = ofT tg R.row := this
          rw [← this]
          show ((if M.length ≤ runN (dropH (A.held tg) p) M then none else some (M.drop (runN (dropH (A.held tg) p) M)) : Option (List Lk))).getD [] = _
          by_cases q : M.length ≤ runN (dropH (A.held tg) p) M
          · rw [if_pos q, List.drop_eq_nil_of_le q]
            rfl
          · rw [if_neg q]
            rfl
      · rw [(r1 tg e).2, h.rw, a5 tg e]
    · show ((loopR x (lessR R.held p x) false R.row).2.2.map Lk.th).Nodup
      exact List.Nodup.sublist (a6.map Lk.th) h.nd
theorem fold_ins (L : List Lk) (S : List Int) (hS : S.Pairwise (· < ·)) : (L.foldl (fun S l => insS l.th S) S).Pairwise (· < ·) ∧ ∀ x, x ∈ L.foldl (fun S l => insS l.th S) S ↔ x ∈ S ∨ ∃ l ∈ L, l.th = x := by
  induction L generalizing S with
  | nil => exact ⟨hS, fun x => by simp⟩
  | cons l r ih =>
    obtain ⟨a1, a2⟩ := ih (insS l.th S) (ins_pw hS)
    refine ⟨a1, fun x => (a2 x).trans ?_⟩
    rw [mem_ins]
    constructor
    · rintro ((rfl | q) | ⟨m, hm, q⟩)
      · exact .inr ⟨l, by simp, rfl⟩
      · exact .inl q
      · exact .inr ⟨m, by simp [hm], q⟩
    · rintro (q | ⟨m, hm, q⟩)
      · exact .inl (.inr q)
      · rcases List.mem_cons.1 hm with rfl | hm
        · exact .inl (.inl q.symm)
        · exact .inr ⟨m, hm, q⟩
theorem eqv_holders {R : Rf} {A : Ta} (hA : A.Ok) (h : Eqv R A) (tg : Int) : holdL (A.held tg) = R.holders tg := by
  obtain ⟨a1, a2⟩ := fold_ins (ofT tg R.held) [] (by simp)
  unfold Rf.holders
  rcases h.hd tg with ⟨e, q⟩ | ⟨S, b, e, _, q, _⟩
  · rw [e]
    have : ofT tg R.held = [] := List.filter_eq_nil_iff.2 (fun l hl => by simp [q l hl])
    rw [this]
    rfl
  · rw [e]
    refine rise_ext (hA.hd tg _ e).2.1.1 a1 (fun x => ?_)
    rw [a2]
    show x ∈ S ↔ _
    rw [q]
    constructor
    · rintro ⟨l, hl, a, b⟩
      exact .inr ⟨l, List.mem_filter.2 ⟨hl, by simp [a]⟩, b⟩
    · rintro (q | ⟨l, hl, b⟩)
      · cases q
      · obtain ⟨c, d⟩ := List.mem_filter.1 hl
        exact ⟨l, c, by simpa using d, b⟩
end Go.Proofs.Ytoediflikoedaaa
namespace Go.Proofs.Ytoediflikoedaaa
open Go Go.Proofs Go.RowKit Go.Shelf
/-- The first of each row can't be granted. -/
def Ta.Blk (A : Ta) : Prop := ∀ tg l r, A.rows tg = some (l :: r) → besB (A.held tg) l.al = false
theorem blk_none : Ta.none.Blk := fun _ _ _ h => by cases h
theorem run_next (h : Option (List Int × Bool)) (L : List Lk) : ∀ l r, L.drop (runN h L) = l :: r → besB (runH h L) l.al = false := by
  induction L generalizing h with
  | nil => intro l r e; cases e
  | cons a t ih =>
    rw [runN_cons, runH_cons]
    by_cases hb : besB h a.al = true
    · rw [if_pos hb, if_pos hb]
      intro l r e
      exact ih _ l r e
    · rw [if_neg hb, if_neg hb]
      intro l r e
      cases e
      simpa using hb
theorem blk_rel {A : Ta} (h : A.Blk) (p x : Int) : (A.rel p x).Blk := by
  cases hh : A.holds p x with
  | false => rw [(rel_same hh).1]; exact h
  | true =>
    obtain ⟨r1, r2, r3, _⟩ := rel_at hh
    intro tg l r e
    by_cases q : tg = x
    · subst q
      rw [r2]
      rw [r3] at e
      obtain ⟨M, hM, _, e2⟩ := left_some e
      rw [hM, Option.getD_some] at e2 ⊢
      exact run_next _ _ l r e2.symm
    · rw [(r1 tg q).1]
      rw [(r1 tg q).2] at e
      exact h tg l r e
theorem blk_ask {A : Ta} (hA : A.Ok) (h : A.Blk) (l : Lk) : (A.ask l).Blk := by
  unfold Ta.ask
  split
  · exact h
  · split
    · rename_i q
      simp only [Bool.and_eq_true] at q
      intro tg m r e
      have e : A.rows tg = some (m :: r) := e
      show besB (updC A.held l.tg (some (putH (A.held l.tg) l)) tg) m.al = false
      have : tg ≠ l.tg := fun z => by rw [← z, e] at q; cases q.1
      rw [updC_other _ _ this]
      exact h tg m r e
    · rename_i q
      intro tg m r e
      have e : updC A.rows l.tg (some ((A.rows l.tg).getD [] ++ [l])) tg = some (m :: r) := e
      show besB (A.held tg) m.al = false
      by_cases z : tg = l.tg
      · subst z
        rw [updC_same] at e
        cases hr : A.rows l.tg with
        | none =>
          rw [hr] at e q
          cases e
          simpa using q
        | some M =>
          rw [hr] at e
          cases M with
          | nil => exact absurd rfl (hA.row _ _ hr).1
          | cons a t =>
            cases e
            exact h l.tg _ t hr
      · rw [updC_other _ _ z] at e
        exact h tg m r e
/-- One release by a thread that does not wait. -/
structure Step1 (A : Ta) (p x : Int) : Prop where
  hold : A.holds p x = true
  free : A.waits p = none
inductive Run : Ta → Ta → Prop where
  | nil (A : Ta) : Run A A
  | cons {A B : Ta} (p x : Int) (h : Step1 A p x) (r : Run (A.rel p x) B) : Run A B
theorem Run.snoc {A B : Ta} (r : Run A B) {p x : Int} (h : Step1 B p x) : Run A (B.rel p x) := by
  induction r with
  | nil A => exact .cons p x h (.nil _)
  | cons q y hq _ ih => exact .cons q y hq (ih h)
theorem Run.trans {A B C : Ta} (r : Run A B) (s : Run B C) : Run A C := by
  induction r with
  | nil A => exact s
  | cons q y hq _ ih => exact .cons q y hq (ih s)
theorem steps_run {A B : Ta} (h : Steps A B) : Run A B := by
  induction h with
  | refl => exact .nil _
  | step p x _ hp ih =>
    cases hh : Ta.holds _ p x with
    | false => rw [(rel_same hh).1]; exact ih
    | true => exact ih.snoc ⟨hh, hp⟩
theorem ta_ext {A B : Ta} (h1 : ∀ x, A.held x = B.held x) (h2 : ∀ x, A.rows x = B.rows x) (h3 : ∀ x, A.waits x = B.waits x) : A = B := by
  cases A; cases B
  congr
  · exact funext h1
  · exact funext h2
  · exact funext h3
/-- What one release leaves of another one's right. -/
theorem step_keep {A : Ta} {p x q y : Int} (h1 : Step1 A p x) (h2 : Step1 A q y) (ne : ¬ (p = q ∧ x = y)) : Step1 (A.rel p x) q y := by
  obtain ⟨r1, r2, _, _, r5⟩ := rel_at h1.hold
  refine ⟨?_, ?_⟩
  · unfold Ta.holds
    by_cases e : y = x
    · subst e
      rw [r2, runH_mem, dropH_mem]
      have : holdB (A.held y) q = true := h2.hold
      rw [this, decide_eq_true (show q ≠ p from fun z => ne ⟨z.symm, rfl⟩)]
      rfl
    · rw [(r1 y e).1]
      exact h2.hold
  · rw [r5]
    split
    · rfl
    · exact h2.free
theorem rel_none {A : Ta} {p x : Int} (hh : A.holds p x = true) (hr : A.rows x = Option.none) : (∀ y, (A.rel p x).rows y = A.rows y) ∧ (∀ y, (A.rel p x).waits y = A.waits y) ∧ (A.rel p x).held x = dropH (A.held x) p := by
  obtain ⟨r1, r2, r3, r4, r5⟩ := rel_at hh
  rw [hr] at r2 r3 r4
  have e4 : A.relL p x = [] := by rw [r4]; rfl
  refine ⟨fun y => ?_, fun y => ?_, r2⟩
  · by_cases e : y = x
    · subst e; rw [r3, hr]; rfl
    · exact (r1 y e).2
  · rw [r5, e4]; simp
theorem drop_drop (h : Option (List Int × Bool)) (p q : Int) : dropH (dropH h p) q = dropH (dropH h q) p := by
  cases h with
  | none => rfl
  | some y =>
    have hc : delS q (delS p y.1) = delS p (delS q y.1) := by
      unfold delS
      rw [List.filter_filter, List.filter_filter]
      exact List.filter_congr (fun x _ => Bool.and_comm _ _)
    have key : ∀ p q : Int, dropH (dropH (some y) p) q = if delS q (delS p y.1) = [] then none else some (delS q (delS p y.1), y.2) := fun p q => by
      by_cases e : delS p y.1 = []
      · have : delS q (delS p y.1) = [] := by rw [e]; rfl
        rw [if_pos this]
        simp only [dropH]
        rw [if_pos e]
      · show dropH (if delS p y.1 = [] then none else some (delS p y.1, y.2)) q = _
        rw [if_neg e]
        rfl
    rw [key, key, hc]
/-- A release beside another one that holds the thing grants nothing. -/
theorem rel_beside {A : Ta} (hA : A.Ok) (hB : A.Blk) {p q x : Int} (hp : A.holds p x = true) (hq : A.holds q x = true) (ne : p ≠ q) :
    (∀ z, (A.rel p x).rows z = A.rows z) ∧ (∀ z, (A.rel p x).waits z = A.waits z) ∧ (A.rel p x).held x = dropH (A.held x) p ∧ ∀ z, z ≠ x → (A.rel p x).held z = A.held z := by
  obtain ⟨r1, r2, r3, r4, r5⟩ := rel_at hp
  have h0 : runN (dropH (A.held x) p) ((A.rows x).getD []) = 0 := by
    cases hr : A.rows x with
    | none => rfl
    | some M =>
      cases M with
      | nil => rfl
      | cons l r =>
        rw [Option.getD_some, runN_cons, if_neg]
        have hb := hB x l r hr
        cases hh : A.held x with
        | none => unfold Ta.holds at hp; rw [hh] at hp; cases hp
        | some y =>
          rw [hh] at hb
          have hqm : q ∈ y.1 := by
            unfold Ta.holds at hq
            rw [hh] at hq
            simpa [holdB] using hq
          have hne : delS p y.1 ≠ [] := fun e => by
            have : q ∈ delS p y.1 := mem_del.2 ⟨hqm, fun z => ne z.symm⟩
            rw [e] at this
            cases this
          show ¬ besB (if delS p y.1 = [] then none else some (delS p y.1, y.2)) l.al = true
          rw [if_neg hne]
          have : besB (some (delS p y.1, y.2)) l.al = besB (some y) l.al := rfl
          rw [this, hb]
          simp
  have e4 : A.relL p x = [] := by rw [r4, h0]; rfl
  refine ⟨fun z => ?_, fun z => ?_, ?_, fun z hz => (r1 z hz).1⟩
  · by_cases e : z = x
    · subst e
      rw [r3, h0]
      cases hr : A.rows z with
      | none => rfl
      | some M =>
        have := (hA.row z M hr).1
        show (if M.length ≤ 0 then none else some (M.drop 0)) = some M
        rw [if_neg (by have : M.length ≠ 0 := fun e => this (List.eq_nil_of_length_eq_zero e); omega)]
        rfl
    · exact (r1 z e).2
  · rw [r5, e4]; simp
  · rw [r2, runH_stop h0]
theorem commute {A : Ta} (hA : A.Ok) (hB : A.Blk) {p x q y : Int} (h1 : Step1 A p x) (h2 : Step1 A q y) (ne : ¬ (p = q ∧ x = y)) : (A.rel p x).rel q y = (A.rel q y).rel p x := by
  have k1 := step_keep h1 h2 ne
  have k2 := step_keep h2 h1 (fun e => ne ⟨e.1.symm, e.2.symm⟩)
  by_cases e : x = y
  · subst e
    have hpq : p ≠ q := fun e => ne ⟨e, rfl⟩
    obtain ⟨a1, a2, a3, a4⟩ := rel_beside hA hB h1.hold h2.hold hpq
    obtain ⟨b1, b2, b3, b4⟩ := rel_beside hA hB h2.hold h1.hold (fun e => hpq e.symm)
    obtain ⟨r1, r2, r3, r4, r5⟩ := rel_at k1.hold
    obtain ⟨s1, s2, s3, s4, s5⟩ := rel_at k2.hold
    rw [a1, a3, drop_drop] at r2 r3 r4
    rw [b1, b3] at s2 s3 s4
    refine ta_ext (fun z => ?_) (fun z => ?_) (fun z => ?_)
    · by_cases hz : z = x
      · subst hz; rw [r2, s2]
      · rw [(r1 z hz).1, (s1 z hz).1, a4 z hz, b4 z hz]
    · by_cases hz : z = x
      · subst hz; rw [r3, s3]
      · rw [(r1 z hz).2, (s1 z hz).2, a1, b1]
    · rw [r5, s5, r4, s4, a2, b2]
  · obtain ⟨a1, a2, a3, a4, a5⟩ := rel_at h1.hold
    obtain ⟨b1, b2, b3, b4, b5⟩ := rel_at h2.hold
    obtain ⟨r1, r2, r3, r4, r5⟩ := rel_at k1.hold
    obtain ⟨s1, s2, s3, s4, s5⟩ := rel_at k2.hold
    have hyx : y ≠ x := fun z => e z.symm
    rw [(a1 y hyx).1, (a1 y hyx).2] at r2 r3 r4
    rw [(b1 x e).1, (b1 x e).2] at s2 s3 s4
    refine ta_ext (fun z => ?_) (fun z => ?_) (fun z => ?_)
    · by_cases hz : z = y
      · subst hz; rw [r2, (s1 z hyx).1, b2]
      · rw [(r1 z hz).1]
        by_cases hx : z = x
        · subst hx; rw [a2, s2]
        · rw [(a1 z hx).1, (s1 z hx).1, (b1 z hz).1]
    · by_cases hz : z = y
      · subst hz; rw [r3, (s1 z hyx).2, b3]
      · rw [(r1 z hz).2]
        by_cases hx : z = x
        · subst hx; rw [a3, s3]
        · rw [(a1 z hx).2, (s1 z hx).2, (b1 z hz).2]
    · rw [r5, s5, r4, s4, a5, b5, a4, b4]
      by_cases q1 : z ∈ (((A.rows y).getD []).take (runN (dropH (A.held y) q) ((A.rows y).getD []))).map Lk.th
      · rw [if_pos q1, if_pos q1]
        split <;> rfl
      · rw [if_neg q1, if_neg q1]
theorem run_ok {A B : Ta} (r : Run A B) (hA : A.Ok) : B.Ok := by
  induction r with
  | nil A => exact hA
  | cons p x _ _ ih => exact ih (ok_rel hA p x)
theorem run_blk {A B : Ta} (r : Run A B) (hA : A.Blk) : B.Blk := by
  induction r with
  | nil A => exact hA
  | cons p x _ _ ih => exact ih (blk_rel hA p x)
theorem run_step {A D : Ta} (r : Run A D) (hD : D.Done) (hA : A.Ok) (hB : A.Blk) {p x : Int} (h : Step1 A p x) : Run (A.rel p x) D := by
  induction r generalizing p x with
  | nil A =>
    have := hD p x h.hold
    rw [h.free] at this
    cases this
  | cons q y hq r ih =>
    rename_i A D
    by_cases e : p = q ∧ x = y
    · obtain ⟨rfl, rfl⟩ := e
      exact r
    · have h1 := ih hD (ok_rel hA q y) (blk_rel hB q y) (step_keep hq h (fun z => e ⟨z.1.symm, z.2.symm⟩))
      rw [← commute hA hB h hq e] at h1
      exact .cons q y (step_keep h hq e) h1
theorem run_join {A B D : Ta} (s : Run A B) (r : Run A D) (hD : D.Done) (hA : A.Ok) (hB : A.Blk) : Run B D := by
  induction s with
  | nil A => exact r
  | cons p x h _ ih => exact ih (run_step r hD hA hB h) (ok_rel hA p x) (blk_rel hB p x)
/-- The same rows; what is held is the same but where nobody waits. -/
structure Ge (A B : Ta) : Prop where
  rows : ∀ x, A.rows x = B.rows x
  waits : ∀ x, A.waits x = B.waits x
  held : ∀ x, B.held x = A.held x ∨ (B.held x = none ∧ A.rows x = none)
theorem ge_waited (A : Ta) : Ge A A.waited := by
  refine ⟨fun _ => rfl, fun _ => rfl, fun x => ?_⟩
  show (if (A.rows x).isSome then A.held x else Option.none) = A.held x ∨ ((if (A.rows x).isSome then A.held x else Option.none) = none ∧ A.rows x = none)
  cases hr : A.rows x with
  | none => exact .inr ⟨rfl, rfl⟩
  | some M => exact .inl rfl
theorem ge_step {A B : Ta} (g : Ge A B) {p x : Int} (h : Step1 B p x) : Step1 A p x ∧ Ge (A.rel p x) (B.rel p x) := by
  have hx : B.held x = A.held x := by
    rcases g.held x with e | ⟨e, _⟩
    · exact e
    · have := h.hold
      unfold Ta.holds at this
      rw [e] at this
      cases this
  have hA : A.holds p x = true := by
    have := h.hold
    unfold Ta.holds at this ⊢
    rw [← hx]
    exact this
  obtain ⟨a1, a2, a3, a4, a5⟩ := rel_at hA
  obtain ⟨b1, b2, b3, b4, b5⟩ := rel_at h.hold
  rw [← g.rows, hx] at b2 b3 b4
  refine ⟨⟨hA, by rw [g.waits]; exact h.free⟩, fun z => ?_, fun z => ?_, fun z => ?_⟩
  · by_cases e : z = x
    · subst e; rw [a3, b3]
    · rw [(a1 z e).2, (b1 z e).2, g.rows]
  · rw [a5, b5, a4, b4, g.waits]
  · by_cases e : z = x
    · subst e; exact .inl (by rw [a2, b2])
    · rw [(a1 z e).1, (b1 z e).1, (a1 z e).2]
      exact g.held z
theorem ge_run {A B E : Ta} (g : Ge A B) (r : Run B E) : ∃ A2, Run A A2 ∧ Ge A2 E := by
  induction r generalizing A with
  | nil B => exact ⟨A, .nil _, g⟩
  | cons p x h _ ih =>
    obtain ⟨h1, g1⟩ := ge_step g h
    obtain ⟨A2, r2, g2⟩ := ih g1
    exact ⟨A2, .cons p x h1 r2, g2⟩
theorem ge_done {A E D : Ta} (g : Ge A E) (hE : E.Done) (r : Run A D) : Ge D E := by
  induction r with
  | nil A => exact g
  | cons p x h _ ih =>
    rename_i A D
    apply ih
    rcases g.held x with e | ⟨e1, e2⟩
    · exfalso
      have := h.hold
      unfold Ta.holds at this
      rw [← e] at this
      have := hE p x this
      rw [← g.waits, h.free] at this
      cases this
    · obtain ⟨a1, a2, a3⟩ := rel_none h.hold e2
      refine ⟨fun z => by rw [a1]; exact g.rows z, fun z => by rw [a2]; exact g.waits z, fun z => ?_⟩
      by_cases q : z = x
      · subst q
        exact .inr ⟨e1, by rw [a1]; exact e2⟩
      · rw [(rel_at h.hold).1 z q |>.1, a1]
        exact g.held z
/-- Whoever is stuck is so, whatever is released first. -/
theorem stuck_same {A E D : Ta} (hA : A.Ok) (hB : A.Blk) (s : Steps A.waited E) (hE : E.Done) (r : Run A D) (hD : D.Done) (th : Int) : D.waits th = E.waits th := by
  obtain ⟨A2, r2, g2⟩ := ge_run (ge_waited A) (steps_run s)
  exact (ge_done g2 hE (run_join r2 r hD hA hB)).waits th
end Go.Proofs.Ytoediflikoedaaa
namespace Go.Proofs.Ytoediflikoedaaa
open Go Go.Proofs Go.RowKit Go.Shelf
attribute [local go_sem] Oper.semAt_some
/-- The struct of two rows at block r; F: the blocks that it may own. -/
def RfAt (F : Nat → Prop) (W : World) (r : Nat) (R : Rf) : Prop :=
  ∃ vH vR, W.heap[r]? = some (.cells #[vH, vR] 29 (0, 0)) ∧ SlOk W vH R.held ∧ SlOk W vR R.row ∧ F r ∧ (∀ k, vH.ownBlock = some k → F k) ∧ (∀ k, vR.ownBlock = some k → F k) ∧ ∀ k, vH.ownBlock = some k → vR.ownBlock ≠ some k
section
variable {F G : Nat → Prop} {W W' : World} {r : Nat} {R : Rf}
theorem RfAt.mono (h : RfAt F W r R) (hF : ∀ k, k < W.heap.size → F k → G k) : RfAt G W r R := by
  obtain ⟨vH, vR, h1, h2, h3, h4, h5, h6, h7⟩ := h
  exact ⟨vH, vR, h1, h2, h3, hF _ (lt_of_block h1) h4, fun k hk => hF k (h2.lt' hk) (h5 k hk), fun k hk => hF k (h3.lt' hk) (h6 k hk), h7⟩
theorem RfAt.keep (h : RfAt F W r R) (hk : ∀ k, F k → k < W.heap.size → W'.heap[k]? = W.heap[k]?) : RfAt F W' r R := by
  obtain ⟨vH, vR, h1, h2, h3, h4, h5, h6, h7⟩ := h
  exact ⟨vH, vR, (hk r h4 (lt_of_block h1)).trans h1, h2.keep (fun k q => hk k (h5 k q) (h2.lt' q)), h3.keep (fun k q => hk k (h6 k q) (h3.lt' q)), h4, h5, h6, h7⟩
theorem RfAt.below (h : RfAt F W r R) (hB : Below W.heap.size W W') : RfAt F W' r R := h.keep (fun k _ hk => hB.block k hk)
theorem sl_at {ao : Option Addr} {n c : Nat} {L : List Lk} (h : SlOk W (.slice ao n c) L) {k : Nat} (hk : k < n) : ∃ gg off, ao = some ⟨gg, off, none⟩ ∧ gg < W.heap.size ∧ W.cell? ⟨gg, off + k * 3, none⟩ = some (.int .i64 (L.getD k Lk.zero).th) ∧ W.cell? ⟨gg, off + k * 3 + 1, none⟩ = some (.int .i64 (L.getD k Lk.zero).tg) ∧ W.cell? ⟨gg, off + k * 3 + 2, none⟩ = some (.bool (L.getD k Lk.zero).al) := by
  rcases h with ⟨e, _⟩ | ⟨gg, h1, hR⟩
  · cases e; omega
  · obtain ⟨off, cap, e1, e2, e3, e4⟩ := hR.cells
    cases e1
    refine ⟨gg, off, rfl, e2, ?_⟩
    exact e4 k _ (by rw [List.getD, List.getElem?_eq_getElem hk]; rfl)
theorem sl_len {v : Value} {L : List Lk} (h : SlOk W v L) : ∃ ao c, v = .slice ao L.length c ∧ L.length ≤ 9223372036854775807 := by
  rcases h with ⟨rfl, rfl⟩ | ⟨gg, h1, off, cap, cur, e, _, h2, _, h3, _⟩
  · exact ⟨none, 0, rfl, by simp⟩
  · exact ⟨_, cap, e, by unfold maxLen at h3; omega⟩
end
theorem has_take {H : List Lk} {k : Nat} (hk : k < H.length) (p x : Int) : hasB (H.take (k + 1)) p x = (hasB (H.take k) p x || ((H.getD k Lk.zero).th == p && (H.getD k Lk.zero).tg == x)) := by
  unfold hasB
  rw [List.take_add_one, List.getElem?_eq_getElem hk, List.any_append]
  simp [List.getD, List.getElem?_eq_getElem hk]
theorem has_yes {H : List Lk} {k : Nat} (hk : k < H.length) {p x : Int} (h1 : (H.getD k Lk.zero).th = p) (h2 : (H.getD k Lk.zero).tg = x) : hasB H p x = true :=
  hasB_iff.2 ⟨H.getD k Lk.zero, by rw [List.getD, List.getElem?_eq_getElem hk]; exact List.getElem_mem _, h2, h1⟩
set_option maxRecDepth 100000 in
set_option maxHeartbeats 4000000 in
theorem rholds_any {F : Nat → Prop} {w : World} {r : Nat} {R : Rf} (h : RfAt F w r R) (p x : Int) : Calls Try.prog 20 #[ptV r, .int .i64 p, .int .i64 x] w fun e w' => e = .returned (.bool (hasB R.held p x)) ∧ w' = w := by
  obtain ⟨vH, vR, h1, h2, _⟩ := h
  obtain ⟨ao, c, rfl, hlen⟩ := sl_len h2
  obtain ⟨H, row⟩ := R
  simp only at h2 hlen h1 ⊢
  obtain ⟨n, hn⟩ : ∃ n, H.length = n := ⟨_, rfl⟩
  rw [hn] at h1 h2 hlen
  have HN := Hid.mk hn
  have HS := Hid.mk h2
  have c0 : w.cell? ⟨r, 0, none⟩ = some (.slice ao n c) := by rw [blk_cell h1]; rfl
  obtain ⟨res, hres⟩ : ∃ res, res = hasB H p x := ⟨_, rfl⟩
  rw [← hres]
  have HR := Hid.mk hres
  clear h1 h2 hres hn
  go_enter Try.func20, Try.ntmps20
  go_wp2
  go_loopw [7] (fun kv wr => ∃ k : Nat, kv = .int .i64 k ∧ Hid (wr = w ∧ k ≤ n ∧ hasB (H.take k) p x = false)) (fun kv _ => n - (Go.RowKit.intOf kv).toNat)
  case atStart => exact ⟨0, rfl, Hid.mk ⟨rfl, Nat.zero_le _, by simp [hasB]⟩⟩
  case round =>
    obtain ⟨k, rfl, HK0⟩ := hrel
    obtain ⟨ew, hk1, hk2⟩ := HK0.out
    subst ew
    have HK : Hid (k ≤ n ∧ hasB (H.take k) p x = false) := Hid.mk ⟨hk1, hk2⟩
    clear HK0 hk1 hk2
    by_cases hkl : (k : Int) < (n : Int)
    · have v1 : IntKind.i64.wrap ((k : Int) + 1) = ((k + 1 : Nat) : Int) := by rw [IntKind.wrap_i64]; omega
      have HKL : Hid (k < n) := Hid.mk (by omega)
      obtain ⟨gg, off, rfl, _, d1, d2, _⟩ := sl_at HS.out HKL.out
      have e8 : (⟨gg, off, none⟩ : Addr).add (k * 3) = ⟨gg, off + k * 3, none⟩ := by rw [add_at]
      by_cases q1 : (H.getD k Lk.zero).th = p
      · by_cases q2 : (H.getD k Lk.zero).tg = x
        · have HE : Hid (true = res) := Hid.mk (by rw [HR.out]; exact (has_yes (by have := HN.out; have := HKL.out; omega) q1 q2).symm)
          rw [q1] at d1
          rw [q2] at d2
          clear q1 q2
          go_wp2
          go_ret
          exact ⟨congrArg (fun b => Ending.returned (.bool b)) HE.out, rfl⟩
        · have q3 : ((H.getD k Lk.zero).tg == x) = false := beq_eq_false_iff_ne.2 q2
          have HT : Hid (hasB (H.take (k + 1)) p x = false) := Hid.mk (by rw [has_take (by have := HN.out; have := HKL.out; omega), HK.out.2, q3]; simp)
          rw [q1] at d1
          clear q1
          generalize (H.getD k Lk.zero).tg = y at *
          go_wp2
          go_roundw
          case rel => exact ⟨k + 1, rfl, Hid.mk ⟨trivial, HKL.out, HT.out⟩⟩
          case measure => (have := HKL.out; simp [Go.RowKit.intOf]; omega)
      · have q3 : ((H.getD k Lk.zero).th == p) = false := beq_eq_false_iff_ne.2 q1
        have HT : Hid (hasB (H.take (k + 1)) p x = false) := Hid.mk (by rw [has_take (by have := HN.out; have := HKL.out; omega), HK.out.2, q3]; simp)
        generalize (H.getD k Lk.zero).th = y at *
        go_wp2
        go_roundw
        case rel => exact ⟨k + 1, rfl, Hid.mk ⟨trivial, HKL.out, HT.out⟩⟩
        case measure => (have := HKL.out; simp [Go.RowKit.intOf]; omega)
    · have HE : Hid (false = res) := Hid.mk (by
        rw [HR.out]
        have := HK.out
        rw [List.take_of_length_le (by have := HN.out; omega)] at this
        exact this.2.symm)
      go_wp2
      go_ret
      exact ⟨congrArg (fun b => Ending.returned (.bool b)) HE.out, rfl⟩
end Go.Proofs.Ytoediflikoedaaa
namespace Go.Proofs.Ytoediflikoedaaa
open Go Go.Proofs Go.RowKit Go.Shelf
attribute [local go_sem] Oper.semAt_some
/-- A lock laid into its box. -/
theorem box_set {W : World} {b : Nat} {x y z : Value} (h : W.heap[b]? = some (.cells #[x, y, z] 31 (0, 0))) (th tg : Int) (al : Bool) :
    (((W.setCell ⟨b, 0, none⟩ (.int .i64 th)).setCell ⟨b, 1, none⟩ (.int .i64 tg)).setCell ⟨b, 2, none⟩ (.bool al)).heap[b]? = some (.cells #[.int .i64 th, .int .i64 tg, .bool al] 31 (0, 0)) ∧ Only (fun k => k = b) W (((W.setCell ⟨b, 0, none⟩ (.int .i64 th)).setCell ⟨b, 1, none⟩ (.int .i64 tg)).setCell ⟨b, 2, none⟩ (.bool al)) := by
  refine ⟨?_, (((Only.refl (fun k => k = b) W).setCell (p := ⟨b, 0, none⟩) (.inl rfl) _).setCell (p := ⟨b, 1, none⟩) (.inl rfl) _).setCell (p := ⟨b, 2, none⟩) (.inl rfl) _⟩
  rw [blk_set (blk_set (blk_set h))]
  rfl
theorem find_take {L : List Lk} {k : Nat} (hk : k < L.length) (p : Int) (h0 : (L.take k).find? (fun l => l.th == p) = none) : ((L.getD k Lk.zero).th = p → L.find? (fun l => l.th == p) = some (L.getD k Lk.zero)) ∧ ((L.getD k Lk.zero).th ≠ p → (L.take (k + 1)).find? (fun l => l.th == p) = none) := by
  have e : L.take (k + 1) = L.take k ++ [L.getD k Lk.zero] := by
    rw [List.take_add_one, List.getElem?_eq_getElem hk]
    simp [List.getD, List.getElem?_eq_getElem hk]
  constructor
  · intro q
    have e2 : L = L.take (k + 1) ++ L.drop (k + 1) := (List.take_append_drop _ _).symm
    conv => lhs; rw [e2]
    rw [List.find?_append, e, List.find?_append, h0]
    simp only [Option.none_or]
    rw [List.find?_cons_of_pos (p := fun l : Lk => l.th == p) (a := L.getD k Lk.zero) (beq_iff_eq.2 q)]
    rfl
  · intro q
    rw [e, List.find?_append, h0]
    simp only [Option.none_or]
    rw [List.find?_cons_of_neg (p := fun l : Lk => l.th == p) (a := L.getD k Lk.zero) (by rw [beq_iff_eq]; exact q)]
    rfl
set_option maxRecDepth 100000 in
set_option maxHeartbeats 4000000 in
theorem rwaits_any {F : Nat → Prop} {w : World} {r : Nat} {R : Rf} (h : RfAt F w r R) (p : Int) : Calls Try.prog 17 #[ptV r, .int .i64 p] w fun e w' => e = .returned (.tuple #[lkV ((R.waits p).getD Lk.zero), .bool (R.waits p).isSome]) ∧ Below w.heap.size w w' := by
  obtain ⟨w0, hw0⟩ : ∃ w0, w0 = w.alloc (.cells #[.int .i64 0, .int .i64 0, .bool false] 31) := ⟨_, rfl⟩
  have hB : Below w.heap.size w w0 := by rw [hw0]; exact (Below.refl _ w).alloc (Nat.le_refl _) _
  obtain ⟨vH, vR, h1, _, h2, _⟩ := h.below hB
  obtain ⟨ao, c, rfl, hlen⟩ := sl_len h2
  have hrl := lt_of_block h1
  have hbx : w0.heap[w.heap.size]? = some (.cells #[.int .i64 0, .int .i64 0, .bool false] 31 (0, 0)) := by rw [hw0]; exact blk_new w _
  have HBX := Hid.mk hbx
  have fz : ∀ j, w0.frozen? ⟨w.heap.size, j, none⟩ = false := fun j => blk_free hbx j
  obtain ⟨H, L⟩ := R
  simp only at h2 hlen h1
  unfold Rf.waits
  simp only
  obtain ⟨n, hn⟩ : ∃ n, L.length = n := ⟨_, rfl⟩
  rw [hn] at h1 h2 hlen
  have HN := Hid.mk hn
  have HS := Hid.mk h2
  have c0 : w0.cell? ⟨r, 1, none⟩ = some (.slice ao n c) := by rw [blk_cell h1]; rfl
  obtain ⟨res, hres⟩ : ∃ res, res = L.find? (fun l => l.th == p) := ⟨_, rfl⟩
  rw [← hres]
  have HR := Hid.mk hres
  have HB := Hid.mk hB
  clear h1 h2 hres hn h hB hrl hbx
  go_enter Try.func17, Try.ntmps17
  go_wp2
  rw [← hw0]
  have HW0 := Hid.mk hw0
  clear hw0
  obtain ⟨b, hb⟩ : ∃ b, b = w.heap.size := ⟨_, rfl⟩
  rw [← hb] at HBX fz ⊢
  have HBE := Hid.mk hb
  clear hb
  go_loopw [6] (fun kv wr => ∃ k : Nat, kv = .int .i64 k ∧ Hid (wr = w0 ∧ k ≤ n ∧ (L.take k).find? (fun l => l.th == p) = none)) (fun kv _ => n - (Go.RowKit.intOf kv).toNat)
  case atStart => exact ⟨0, rfl, Hid.mk ⟨rfl, Nat.zero_le _, by simp⟩⟩
  case round =>
    obtain ⟨k, rfl, HK0⟩ := hrel
    obtain ⟨ew, hk1, hk2⟩ := HK0.out
    subst ew
    have HK : Hid (k ≤ n ∧ (L.take k).find? (fun l => l.th == p) = none) := Hid.mk ⟨hk1, hk2⟩
    clear HK0 hk1 hk2
    by_cases hkl : (k : Int) < (n : Int)
    · have v1 : IntKind.i64.wrap ((k : Int) + 1) = ((k + 1 : Nat) : Int) := by rw [IntKind.wrap_i64]; omega
      have HKL : Hid (k < n) := Hid.mk (by omega)
      obtain ⟨gg, off, rfl, _, d1, d2, d3⟩ := sl_at HS.out HKL.out
      have e8 : (⟨gg, off, none⟩ : Addr).add (k * 3) = ⟨gg, off + k * 3, none⟩ := by rw [add_at]
      have HT := Hid.mk (find_take (p := p) (by have := HN.out; have := HKL.out; omega) HK.out.2)
      obtain ⟨y, hy⟩ : ∃ y, y = L.getD k Lk.zero := ⟨_, rfl⟩
      rw [← hy] at d1 d2 d3 HT
      clear hy
      by_cases q1 : y.th = p
      · have HE : Hid (res = some y) := Hid.mk (by rw [HR.out]; exact HT.out.1 q1)
        obtain ⟨th, tg, al⟩ := y
        simp only at q1 d1 d2 d3
        subst q1
        have f0 := fz 0
        have f1 := fz 1
        have f2 := fz 2
        obtain ⟨b0, b1, b2⟩ : wr.cell? ⟨b, 0, none⟩ = some (.int .i64 0) ∧ wr.cell? ⟨b, 1, none⟩ = some (.int .i64 0) ∧ wr.cell? ⟨b, 2, none⟩ = some (.bool false) := by
          have := HBX.out
          refine ⟨?_, ?_, ?_⟩ <;> (rw [blk_cell this]; rfl)
        go_wp2
        obtain ⟨hx, hO⟩ := box_set HBX.out th tg al
        have e := HE.out
        have e2 := HBE.out
        subst e
        refine bodyPost_ret (results_lk2 (a := 4) (c := 5) (b := b) (l := ⟨th, tg, al⟩) Try.results17 rfl ?_ ?_ ?_) rfl ⟨rfl, HB.out.trans (hO.below HB.out.size (fun k hk => by omega))⟩
        · rw [blk_cell hx]; rfl
        · rw [blk_cell hx]; rfl
        · rw [blk_cell hx]; rfl
      · have q3 : (y.th == p) = false := beq_eq_false_iff_ne.2 q1
        have HT2 := Hid.mk (HT.out.2 q1)
        generalize y.th = z at *
        go_wp2
        go_roundw
        case rel => exact ⟨k + 1, rfl, Hid.mk ⟨trivial, HKL.out, HT2.out⟩⟩
        case measure => (have := HKL.out; simp [Go.RowKit.intOf]; omega)
    · have HE : Hid (res = none) := Hid.mk (by
        rw [HR.out]
        have := HK.out
        rw [List.take_of_length_le (by have := HN.out; omega)] at this
        exact this.2)
      have f0 := fz 0
      have f1 := fz 1
      have f2 := fz 2
      obtain ⟨b0, b1, b2⟩ : wr.cell? ⟨b, 0, none⟩ = some (.int .i64 0) ∧ wr.cell? ⟨b, 1, none⟩ = some (.int .i64 0) ∧ wr.cell? ⟨b, 2, none⟩ = some (.bool false) := by
        have := HBX.out
        refine ⟨?_, ?_, ?_⟩ <;> (rw [blk_cell this]; rfl)
      go_wp2
      obtain ⟨hx, hO⟩ := box_set HBX.out 0 0 false
      have e := HE.out
      have e2 := HBE.out
      subst e
      refine bodyPost_ret (results_lk2 (a := 4) (c := 5) (b := b) (l := Lk.zero) Try.results17 rfl ?_ ?_ ?_) rfl ⟨rfl, HB.out.trans (hO.below HB.out.size (fun k hk => by omega))⟩
      · rw [blk_cell hx]; rfl
      · rw [blk_cell hx]; rfl
      · rw [blk_cell hx]; rfl
end Go.Proofs.Ytoediflikoedaaa
namespace Go.Proofs.Ytoediflikoedaaa
open Go Go.Proofs Go.RowKit Go.Shelf
attribute [local go_sem] Oper.semAt_some
theorem any_take {H : List Lk} {k : Nat} (hk : k < H.length) (f : Lk → Bool) : (H.take (k + 1)).any f = ((H.take k).any f || f (H.getD k Lk.zero)) := by
  rw [List.take_add_one, List.getElem?_eq_getElem hk, List.any_append]
  simp [List.getD, List.getElem?_eq_getElem hk]
theorem any_yes {H : List Lk} {k : Nat} (hk : k < H.length) {f : Lk → Bool} (h : f (H.getD k Lk.zero) = true) : H.any f = true :=
  List.any_eq_true.2 ⟨H.getD k Lk.zero, by rw [List.getD, List.getElem?_eq_getElem hk]; exact List.getElem_mem _, h⟩
set_option maxRecDepth 100000 in
set_option maxHeartbeats 8000000 in
theorem rbeside_any {F : Nat → Prop} {w : World} {r : Nat} {R : Rf} (h : RfAt F w r R) (l : Lk) : Calls Try.prog 29 #[ptV r, lkV l] w fun e w' => e = .returned (.bool (besR R.held l)) ∧ Below w.heap.size w w' := by
  obtain ⟨w0, hw0⟩ : ∃ w0, w0 = w.alloc (.cells #[.int .i64 l.th, .int .i64 l.tg, .bool l.al] 31) := ⟨_, rfl⟩
  have hB : Below w.heap.size w w0 := by rw [hw0]; exact (Below.refl _ w).alloc (Nat.le_refl _) _
  have hbx : w0.heap[w.heap.size]? = some (.cells #[.int .i64 l.th, .int .i64 l.tg, .bool l.al] 31 (0, 0)) := by rw [hw0]; exact blk_new w _
  obtain ⟨vH, vR, h1, h2, _⟩ := h.below hB
  obtain ⟨ao, c, rfl, hlen⟩ := sl_len h2
  obtain ⟨H, L⟩ := R
  simp only at h2 hlen h1 ⊢
  obtain ⟨n, hn⟩ : ∃ n, H.length = n := ⟨_, rfl⟩
  rw [hn] at h1 h2 hlen
  have HN := Hid.mk hn
  obtain ⟨f, hf⟩ : ∃ f : Lk → Bool, f = fun h => h.tg == l.tg && (l.al || h.al) := ⟨_, rfl⟩
  obtain ⟨res, hres⟩ : ∃ res, res = besR H l := ⟨_, rfl⟩
  rw [← hres]
  have HR : Hid (res = !H.any f) := Hid.mk (by rw [hres, hf]; rfl)
  have HFF := Hid.mk hf
  obtain ⟨th, tg, al⟩ := l
  simp only at HFF hbx hw0
  obtain ⟨b, hb⟩ : ∃ b, b = w.heap.size := ⟨_, rfl⟩
  rw [← hb] at hbx
  have HC : Hid (∀ W, Below w0.heap.size w0 W → W.cell? ⟨r, 0, none⟩ = some (.slice ao n c) ∧ SlOk W (.slice ao n c) H ∧ W.cell? ⟨b, 1, none⟩ = some (.int .i64 tg) ∧ W.cell? ⟨b, 2, none⟩ = some (.bool al) ∧ Below w.heap.size w W) := Hid.mk (fun W hW => by
    have e1 := (hW.block r (lt_of_block h1)).trans h1
    have e2 := (hW.block b (lt_of_block hbx)).trans hbx
    refine ⟨by rw [blk_cell e1]; rfl, h2.keep (fun k hk => hW.block k (h2.lt' hk)), by rw [blk_cell e2]; rfl, by rw [blk_cell e2]; rfl, hB.trans (hW.mono hB.size)⟩)
  clear h1 h2 hres hn h hB hbx hf
  unfold lkV
  go_enter Try.func29, Try.ntmps29
  go_wp2
  rw [← hw0, ← hb]
  clear hw0 hb
  go_loopw [5] (fun kv wr => ∃ k : Nat, kv = .int .i64 k ∧ Hid (Below w0.heap.size w0 wr ∧ k ≤ n ∧ (H.take k).any f = false)) (fun kv _ => n - (Go.RowKit.intOf kv).toNat)
  case atStart => exact ⟨0, rfl, Hid.mk ⟨Below.refl _ _, Nat.zero_le _, by simp⟩⟩
  case round =>
    obtain ⟨k, rfl, HK⟩ := hrel
    obtain ⟨c0, hS, c1, c2, hBw⟩ := HC.out wr HK.out.1
    have HBW : Hid (∀ m, Below w.heap.size w (wr.drewN m) ∧ Below w0.heap.size w0 (wr.drewN m)) := Hid.mk (fun m => ⟨hBw.trans (below_drewN' _ _ _ hBw.size), HK.out.1.trans (below_drewN' _ _ _ HK.out.1.size)⟩)
    have HS := Hid.mk hS
    clear hS hBw
    by_cases hkl : (k : Int) < (n : Int)
    · have v1 : IntKind.i64.wrap ((k : Int) + 1) = ((k + 1 : Nat) : Int) := by rw [IntKind.wrap_i64]; omega
      have HKL : Hid (k < n ∧ k < H.length) := Hid.mk (by have := HN.out; omega)
      obtain ⟨gg, off, rfl, _, d1, d2, d3⟩ := sl_at HS.out HKL.out.1
      have e8 : (⟨gg, off, none⟩ : Addr).add (k * 3) = ⟨gg, off + k * 3, none⟩ := by rw [add_at]
      have HT : Hid ((H.take (k + 1)).any f = f (H.getD k Lk.zero) ∧ (f (H.getD k Lk.zero) = true → H.any f = true)) := Hid.mk ⟨by rw [any_take HKL.out.2, HK.out.2.2]; rfl, any_yes HKL.out.2⟩
      have HF2 : Hid (f (H.getD k Lk.zero) = ((H.getD k Lk.zero).tg == tg && (al || (H.getD k Lk.zero).al))) := Hid.mk (by rw [HFF.out])
      obtain ⟨y, hy⟩ : ∃ y, y = H.getD k Lk.zero := ⟨_, rfl⟩
      rw [← hy] at d1 d2 d3 HT HF2
      clear hy HK d1
      obtain ⟨yh, yt, ya⟩ := y
      simp only at d2 d3 HF2
      by_cases q1 : yt = tg
      · subst q1
        cases al with
        | true =>
          have HE : Hid (false = res) := Hid.mk (by rw [HR.out, HT.out.2 (by rw [HF2.out]; simp)]; rfl)
          go_wp2
          go_quiet (fail)
          go_wp2
          go_ret
          exact ⟨congrArg (fun b => Ending.returned (.bool b)) HE.out, (HBW.out _).1⟩
        | false =>
          cases ya with
          | true =>
            have HE : Hid (false = res) := Hid.mk (by rw [HR.out, HT.out.2 (by rw [HF2.out]; simp)]; rfl)
            go_wp2
            go_quiet (fail)
            go_wp2
            go_ret
            exact ⟨congrArg (fun b => Ending.returned (.bool b)) HE.out, (HBW.out _).1⟩
          | false =>
            have HG : Hid ((H.take (k + 1)).any f = false) := Hid.mk (by rw [HT.out.1, HF2.out]; simp)
            go_wp2
            go_quiet (fail)
            go_wp2
            go_roundw
            case rel => exact ⟨k + 1, rfl, Hid.mk ⟨(HBW.out _).2, HKL.out.1, HG.out⟩⟩
            case measure => (have := HKL.out.1; simp [Go.RowKit.intOf]; omega)
      · have q3 : (yt == tg) = false := beq_eq_false_iff_ne.2 q1
        have HG : Hid ((H.take (k + 1)).any f = false) := Hid.mk (by rw [HT.out.1, HF2.out, q3]; rfl)
        go_wp2
        go_quiet (fail)
        go_wp2
        go_roundw
        case rel => exact ⟨k + 1, rfl, Hid.mk ⟨(HBW.out _).2, HKL.out.1, HG.out⟩⟩
        case measure => (have := HKL.out.1; simp [Go.RowKit.intOf]; omega)
    · have HE : Hid (true = res) := Hid.mk (by
        rw [HR.out]
        have := HK.out
        rw [List.take_of_length_le (by have := HN.out; omega)] at this
        rw [this.2.2]
        rfl)
      have HB9 := Hid.mk (HBW.out 0).1
      clear HBW
      go_wp2
      go_ret
      exact ⟨congrArg (fun b => Ending.returned (.bool b)) HE.out, HB9.out⟩
end Go.Proofs.Ytoediflikoedaaa
namespace Go.Proofs.Ytoediflikoedaaa
open Go Go.Proofs Go.RowKit Go.Shelf
attribute [local go_sem] Oper.semAt_some
def Sx (r f b : Nat) (l : Lk) (v : Value) (W : World) : Prop := W.cell? ⟨r, f, none⟩ = some v ∧ W.cell? ⟨b, 0, none⟩ = some (.int .i64 l.th) ∧ W.cell? ⟨b, 0 + 1, none⟩ = some (.int .i64 l.tg) ∧ W.cell? ⟨b, 0 + 2, none⟩ = some (.bool l.al)
theorem rf_app0 {F : Nat → Prop} {W : World} {r : Nat} {R : Rf} (h : RfAt F W r R) (l : Lk) (hn : R.held.length ≤ 1000000) {b : Nat} (hb : W.heap[b]? = some (lkO l)) (hbF : ¬ F b) :
    ∃ vo vc vo7 vc7 W7, (Builtin.append_ #[27, 27] 27 #[.slice vo R.held.length vc, .slice (some ⟨W.heap.size, 0, none⟩) 1 1]).run Try.prog (W.alloc (.cells (lkC l).toArray 31)) = .ok (.slice vo7 (R.held.length + 1) vc7) W7 ∧ Sx r 0 b l (.slice vo R.held.length vc) W ∧ Hid (Sx r 0 b l (.slice vo R.held.length vc) (W.alloc (.cells (lkC l).toArray 31))) ∧ Hid (Sx r 0 b l (.slice vo R.held.length vc) W7) ∧ Hid (W7.frozen? ⟨r, 0, none⟩ = false) ∧ Hid (RfAt (Grown F W) (W7.setCell ⟨r, 0, none⟩ (.slice vo7 (R.held.length + 1) vc7)) r ⟨R.held ++ [l], R.row⟩ ∧ Only F W (W7.setCell ⟨r, 0, none⟩ (.slice vo7 (R.held.length + 1) vc7))) := by
  obtain ⟨vH, vR, h1, h2, h3, h4, h5, h6, h7⟩ := h
  obtain ⟨v7, g7, W7, hr7, e7, hR7, hn7, hO7⟩ := appendl h2 l hn
  obtain ⟨vo, vc, ev⟩ := h2.slice
  obtain ⟨vo7, vc7, ev7⟩ : ∃ vo vc, v7 = .slice vo (R.held.length + 1) vc := by
    obtain ⟨off, cap, cur, e, -⟩ := hR7
    exact ⟨some ⟨g7, off, none⟩, cap, by rw [e]; simp⟩
  subst ev ev7
  have hrl := lt_of_block h1
  have hbl := lt_of_block hb
  have hnr : ∀ (v : Value) (L : List Lk) (V : World), SlOk V v L → V.heap[r]? = W.heap[r]? → v.ownBlock ≠ some r := fun v L V hS he q => by
    rcases hS with ⟨rfl, _⟩ | ⟨g, hg, off, cap, cur, _, hc, _⟩
    · cases q
    · rw [hg] at q
      cases q
      rw [he, h1] at hc
      cases hc
  have hg7F : F g7 ∨ W.heap.size < g7 := hn7.imp (fun q => h5 g7 q) id
  have hg7r : g7 ≠ r := fun e => by
    rcases hn7 with q | q
    · exact hnr _ _ W h2 rfl (by rw [q, e])
    · omega
  have hg7b : g7 ≠ b := fun e => by
    rcases hg7F with q | q
    · exact hbF (e ▸ q)
    · omega
  have hu7 : vR.ownBlock ≠ some g7 := fun e => by
    rcases hn7 with q | q
    · exact h7 g7 q e
    · have := h3.lt' e; omega
  have r6 := (Below.heap_alloc W (.cells (lkC l).toArray 31) r hrl).trans h1
  have b6 := (Below.heap_alloc W (.cells (lkC l).toArray 31) b hbl).trans hb
  have r7 := (hO7.block r hrl (fun e => hg7r e.symm)).trans h1
  have b7 := (hO7.block b hbl (fun e => hg7b e.symm)).trans hb
  have sx : ∀ V : World, V.heap[r]? = some (.cells #[.slice vo R.held.length vc, vR] 29 (0, 0)) → V.heap[b]? = some (lkO l) → Sx r 0 b l (.slice vo R.held.length vc) V := fun V p q => by
    unfold lkO at q
    exact ⟨by rw [blk_cell p]; rfl, by rw [blk_cell q]; rfl, by rw [blk_cell q]; rfl, by rw [blk_cell q]; rfl⟩
  have hOF : Only F W W7 := hO7.mono (fun i hi e => by
    subst e
    exact hg7F.elim id (fun q => by omega))
  refine ⟨vo, vc, vo7, vc7, W7, hr7, sx W h1 hb, Hid.mk (sx _ r6 b6), Hid.mk (sx _ r7 b7), Hid.mk (blk_free r7 0), Hid.mk ⟨?_, hOF.setCell (p := ⟨r, 0, none⟩) (.inl h4) _⟩⟩
  have hS7 : SlOk W7 (.slice vo7 (R.held.length + 1) vc7) (R.held ++ [l]) := .inr ⟨g7, e7, hR7⟩
  have hk8 : ∀ k, k ≠ r → (W7.setCell ⟨r, 0, none⟩ (.slice vo7 (R.held.length + 1) vc7)).heap[k]? = W7.heap[k]? := fun k hk => Below.heap_setCell _ _ _ _ hk
  have hS8 := hS7.keep (fun k hk => hk8 k (fun e => hnr _ _ W7 hS7 (r7.trans h1.symm) (by rw [hk, e])))
  have hU8 : SlOk (W7.setCell ⟨r, 0, none⟩ (.slice vo7 (R.held.length + 1) vc7)) vR R.row := h3.keep (fun k hk => (hk8 k (fun e => hnr _ _ W h3 rfl (by rw [hk, e]))).trans (hO7.block k (h3.lt' hk) (fun e => hu7 (by rw [hk, e]))))
  have hG7 : Grown F W g7 := hg7F.imp id (fun q => by omega)
  refine ⟨.slice vo7 (R.held.length + 1) vc7, vR, ?_, hS8, hU8, .inl h4, fun k hk => by rw [e7] at hk; cases hk; exact hG7, fun k hk => .inl (h6 k hk), fun k hk => ?_⟩
  · rw [blk_set r7]
    rfl
  · rw [e7] at hk; cases hk; exact hu7
theorem rf_app1 {F : Nat → Prop} {W : World} {r : Nat} {R : Rf} (h : RfAt F W r R) (l : Lk) (hn : R.row.length ≤ 1000000) {b : Nat} (hb : W.heap[b]? = some (lkO l)) (hbF : ¬ F b) :
    ∃ vo vc vo7 vc7 W7, (Builtin.append_ #[27, 27] 27 #[.slice vo R.row.length vc, .slice (some ⟨W.heap.size, 0, none⟩) 1 1]).run Try.prog (W.alloc (.cells (lkC l).toArray 31)) = .ok (.slice vo7 (R.row.length + 1) vc7) W7 ∧ Sx r 1 b l (.slice vo R.row.length vc) W ∧ Hid (Sx r 1 b l (.slice vo R.row.length vc) (W.alloc (.cells (lkC l).toArray 31))) ∧ Hid (Sx r 1 b l (.slice vo R.row.length vc) W7) ∧ Hid (W7.frozen? ⟨r, 1, none⟩ = false) ∧ Hid (RfAt (Grown F W) (W7.setCell ⟨r, 1, none⟩ (.slice vo7 (R.row.length + 1) vc7)) r ⟨R.held, R.row ++ [l]⟩ ∧ Only F W (W7.setCell ⟨r, 1, none⟩ (.slice vo7 (R.row.length + 1) vc7))) := by
  obtain ⟨vH, vR, h1, h2, h3, h4, h5, h6, h7⟩ := h
  obtain ⟨v7, g7, W7, hr7, e7, hR7, hn7, hO7⟩ := appendl h3 l hn
  obtain ⟨vo, vc, ev⟩ := h3.slice
  obtain ⟨vo7, vc7, ev7⟩ : ∃ vo vc, v7 = .slice vo (R.row.length + 1) vc := by
    obtain ⟨off, cap, cur, e, -⟩ := hR7
    exact ⟨some ⟨g7, off, none⟩, cap, by rw [e]; simp⟩
  subst ev ev7
  have hrl := lt_of_block h1
  have hbl := lt_of_block hb
  have hnr : ∀ (v : Value) (L : List Lk) (V : World), SlOk V v L → V.heap[r]? = W.heap[r]? → v.ownBlock ≠ some r := fun v L V hS he q => by
    rcases hS with ⟨rfl, _⟩ | ⟨g, hg, off, cap, cur, _, hc, _⟩
    · cases q
    · rw [hg] at q
      cases q
      rw [he, h1] at hc
      cases hc
  have hg7F : F g7 ∨ W.heap.size < g7 := hn7.imp (fun q => h6 g7 q) id
  have hg7r : g7 ≠ r := fun e => by
    rcases hn7 with q | q
    · exact hnr _ _ W h3 rfl (by rw [q, e])
    · omega
  have hg7b : g7 ≠ b := fun e => by
    rcases hg7F with q | q
    · exact hbF (e ▸ q)
    · omega
  have hu7 : vH.ownBlock ≠ some g7 := fun e => by
    rcases hn7 with q | q
    · exact h7 g7 e q
    · have := h2.lt' e; omega
  have r6 := (Below.heap_alloc W (.cells (lkC l).toArray 31) r hrl).trans h1
  have b6 := (Below.heap_alloc W (.cells (lkC l).toArray 31) b hbl).trans hb
  have r7 := (hO7.block r hrl (fun e => hg7r e.symm)).trans h1
  have b7 := (hO7.block b hbl (fun e => hg7b e.symm)).trans hb
  have sx : ∀ V : World, V.heap[r]? = some (.cells #[vH, .slice vo R.row.length vc] 29 (0, 0)) → V.heap[b]? = some (lkO l) → Sx r 1 b l (.slice vo R.row.length vc) V := fun V p q => by
    unfold lkO at q
    exact ⟨by rw [blk_cell p]; rfl, by rw [blk_cell q]; rfl, by rw [blk_cell q]; rfl, by rw [blk_cell q]; rfl⟩
  have hOF : Only F W W7 := hO7.mono (fun i hi e => by
    subst e
    exact hg7F.elim id (fun q => by omega))
  refine ⟨vo, vc, vo7, vc7, W7, hr7, sx W h1 hb, Hid.mk (sx _ r6 b6), Hid.mk (sx _ r7 b7), Hid.mk (blk_free r7 1), Hid.mk ⟨?_, hOF.setCell (p := ⟨r, 1, none⟩) (.inl h4) _⟩⟩
  have hS7 : SlOk W7 (.slice vo7 (R.row.length + 1) vc7) (R.row ++ [l]) := .inr ⟨g7, e7, hR7⟩
  have hk8 : ∀ k, k ≠ r → (W7.setCell ⟨r, 1, none⟩ (.slice vo7 (R.row.length + 1) vc7)).heap[k]? = W7.heap[k]? := fun k hk => Below.heap_setCell _ _ _ _ hk
  have hS8 := hS7.keep (fun k hk => hk8 k (fun e => hnr _ _ W7 hS7 (r7.trans h1.symm) (by rw [hk, e])))
  have hU8 : SlOk (W7.setCell ⟨r, 1, none⟩ (.slice vo7 (R.row.length + 1) vc7)) vH R.held := h2.keep (fun k hk => (hk8 k (fun e => hnr _ _ W h2 rfl (by rw [hk, e]))).trans (hO7.block k (h2.lt' hk) (fun e => hu7 (by rw [hk, e]))))
  have hG7 : Grown F W g7 := hg7F.imp id (fun q => by omega)
  refine ⟨vH, .slice vo7 (R.row.length + 1) vc7, ?_, hU8, hS8, .inl h4, fun k hk => .inl (h5 k hk), fun k hk => by rw [e7] at hk; cases hk; exact hG7, fun k hk => ?_⟩
  · rw [blk_set r7]
    rfl
  · intro e; rw [e7] at e; cases e; exact hu7 hk
end Go.Proofs.Ytoediflikoedaaa
