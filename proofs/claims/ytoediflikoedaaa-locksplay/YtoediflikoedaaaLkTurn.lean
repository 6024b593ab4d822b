/-
  A table of locks turns: one part of it at a time.
-/
import Derived.Test.YtoediflikoedaaaLkMem
namespace Go.Proofs.Ytoediflikoedaaa
open Go Go.Proofs Go.RowKit Go.Shelf
open Go.ChangeMaps (setBlock)
/-- What is owned grows by what is new. -/
def Grown (F : Nat → Prop) (W : World) : Nat → Prop := fun k => F k ∨ W.heap.size ≤ k
theorem hptr_turn {f : Int → Option Hx} {i : Int} {x y : Hx} (hi : f i = some x) (hb : y.b = x.b) : (fun j => (updC f i (some y) j).map (fun z => z.b)) = fun j => (f j).map (fun z => z.b) := by
  rw [map_updC, updC_id _ _ _ (by simp [hi, hb])]
theorem rptr_turn {f : Int → Option Rx} {i : Int} {x y : Rx} (hi : f i = some x) (hb : y.b = x.b) : (fun j => (updC f i (some y) j).map (fun z => z.b)) = fun j => (f j).map (fun z => z.b) := by
  rw [map_updC, updC_id _ _ _ (by simp [hi, hb])]
section
variable {F F' : Nat → Prop} {W W' : World} {t : Nat} {D : Td}
/-- The threads that hold a thing turn. -/
theorem TbAt.thTurn (h : TbAt F W t D) {i : Int} {x : Hx} (hi : D.held i = some x) {S' : List Int} (hO : Only (fun k => k = x.m) W W') (hS : StAt W' (some x.m) S') : TbAt F W' t { D with held := updC D.held i (some { x with S := S' }) } := by
  obtain ⟨σ, h1, h2⟩ := h
  have hth := h2.th i x hi
  refine ⟨upd σ x.m (.th i S'), h1.turn hO (h1 _ _ hth).1 (Nat.lt_of_lt_of_le (h1 _ _ hth).2.1 hO.size) hS, ?_⟩
  refine ⟨upd_keep _ h2.tb hth (fun q => by cases q), fun e => ?_, fun b e => ?_, h2.rm0, fun b e => upd_keep _ (h2.rm1 b e) hth (fun q => by cases q), h2.wm0, fun b e => upd_keep _ (h2.wm1 b e) hth (fun q => by cases q), ?_, ?_, ?_, ?_⟩
  · have := (h2.hm0 e).2 i
    rw [hi] at this
    cases this
  · show upd σ x.m (.th i S') b = some (.hmap D.nh (fun j => (updC D.held i (some { x with S := S' }) j).map (fun z => z.b)))
    rw [hptr_turn (y := { x with S := S' }) hi rfl]
    exact upd_keep _ (h2.hm1 b e) hth (fun q => by cases q)
  · intro j y hj
    by_cases e : j = i
    · subst e
      have e1 := (updC_same D.held j (some { x with S := S' })).symm.trans hj
      cases e1
      exact upd_keep _ (h2.hd j x hi) hth (fun q => by cases q)
    · exact upd_keep _ (h2.hd j y ((updC_other D.held _ e).symm.trans hj)) hth (fun q => by cases q)
  · intro j y hj
    by_cases e : j = i
    · subst e
      have e1 := (updC_same D.held j (some { x with S := S' })).symm.trans hj
      cases e1
      exact upd_at _ _ _
    · exact upd_keep _ (h2.th j y ((updC_other D.held _ e).symm.trans hj)) hth (fun q => e (Sh.th.inj q).1)
  · intro j y hj
    exact upd_keep _ (h2.rw j y hj) hth (fun q => by cases q)
  · intro j y hj
    rcases h2.ls j y hj with q | ⟨g, q1, q2⟩
    · exact .inl q
    · exact .inr ⟨g, q1, upd_keep _ q2 hth (fun q => by cases q)⟩
/-- A thing is held that was not. -/
theorem TbAt.heldAdd (h : TbAt F W t D) {hb : Nat} (hh : D.hm = some hb) {i : Int} (hi : D.held i = none) {x : Hx} {n' : Nat} (hO : Only (fun k => k = hb) W W') (hxb : W.heap.size ≤ x.b) (hxm : W.heap.size ≤ x.m) (hne : x.b ≠ x.m) (hxb' : x.b < W'.heap.size) (hxm' : x.m < W'.heap.size)
    (hF : ∀ k, F k → F' k) (hFb : F' x.b) (hFm : F' x.m) (c1 : W'.heap[x.b]? = some (.cells #[.map (some x.m), .bool x.al] 68 (0, 0))) (c2 : StAt W' (some x.m) x.S) (c3 : MAt W' 3 hb n' (intF ptV (updC (fun j => (D.held j).map (fun z => z.b)) i (some x.b)))) :
    TbAt F' W' t { D with nh := n', held := updC D.held i (some x) } := by
  obtain ⟨σ, h1, h2⟩ := h
  have f1 : σ x.m = none := h1.new hxm
  have f2 : upd σ x.m (.th i x.S) x.b = none := by rw [upd_ne _ _ hne]; exact h1.new hxb
  have k2 : ∀ k c, σ k = some c → upd (upd σ x.m (.th i x.S)) x.b (.hd i x.m x.al) k = some c := fun k c hk => upd_fresh _ (upd_fresh _ hk f1) f2
  have hhb := k2 _ _ (h2.hm1 hb hh)
  have k3 : ∀ (c' : Sh) k c, σ k = some c → c ≠ .hmap D.nh (fun i => (D.held i).map (fun z => z.b)) → upd (upd (upd σ x.m (.th i x.S)) x.b (.hd i x.m x.al)) hb c' k = some c := fun c' k c hk hc => upd_keep _ (k2 k c hk) hhb hc
  have hhlt := (h1 _ _ (h2.hm1 hb hh)).2.1
  refine ⟨upd (upd (upd σ x.m (.th i x.S)) x.b (.hd i x.m x.al)) hb (.hmap n' (updC (fun j => (D.held j).map (fun z => z.b)) i (some x.b))), h1.step hO hF (fun k c hk => ?_), ?_⟩
  · by_cases e1 : k = hb
    · subst e1
      rw [upd_at] at hk
      cases hk
      exact .inr ⟨hF _ (h1 _ _ (h2.hm1 k hh)).1, Nat.lt_of_lt_of_le hhlt hO.size, c3⟩
    · rw [upd_ne _ _ e1] at hk
      by_cases e2 : k = x.b
      · subst e2
        rw [upd_at] at hk
        cases hk
        exact .inr ⟨hFb, hxb', c1⟩
      · rw [upd_ne _ _ e2] at hk
        by_cases e3 : k = x.m
        · subst e3
          rw [upd_at] at hk
          cases hk
          exact .inr ⟨hFm, hxm', c2⟩
        · rw [upd_ne _ _ e3] at hk
          exact .inl ⟨hk, e1⟩
  · have hbb : x.b ≠ hb := by omega
    have hbm : x.m ≠ hb := by omega
    refine ⟨k3 _ _ _ h2.tb (fun q => by cases q), fun e => ?_, fun b e => ?_, h2.rm0, fun b e => k3 _ _ _ (h2.rm1 b e) (fun q => by cases q), h2.wm0, fun b e => k3 _ _ _ (h2.wm1 b e) (fun q => by cases q), ?_, ?_, ?_, ?_⟩
    · rw [show D.hm = none from e] at hh
      cases hh
    · have : hb = b := Option.some.inj (hh.symm.trans e)
      subst this
      show upd _ hb _ hb = some (.hmap n' (fun j => (updC D.held i (some x) j).map (fun z => z.b)))
      rw [upd_at, map_updC]
      rfl
    · intro j y hj
      by_cases e : j = i
      · subst e
        have e1 := (updC_same D.held j (some x)).symm.trans hj
        cases e1
        rw [upd_ne _ _ hbb, upd_at]
      · exact k3 _ _ _ (h2.hd j y ((updC_other D.held _ e).symm.trans hj)) (fun q => by cases q)
    · intro j y hj
      by_cases e : j = i
      · subst e
        have e1 := (updC_same D.held j (some x)).symm.trans hj
        cases e1
        rw [upd_ne _ _ hbm, upd_ne _ _ (fun q => hne q.symm), upd_at]
      · exact k3 _ _ _ (h2.th j y ((updC_other D.held _ e).symm.trans hj)) (fun q => by cases q)
    · intro j y hj
      exact k3 _ _ _ (h2.rw j y hj) (fun q => by cases q)
    · intro j y hj
      rcases h2.ls j y hj with q | ⟨g, q1, q2⟩
      · exact .inl q
      · exact .inr ⟨g, q1, k3 _ _ _ q2 (fun q => by cases q)⟩
/-- A thing is held no more. -/
theorem TbAt.heldDel (h : TbAt F W t D) {hb : Nat} (hh : D.hm = some hb) {i : Int} {n' : Nat} (hO : Only (fun k => k = hb) W W') (c3 : MAt W' 3 hb n' (intF ptV (updC (fun j => (D.held j).map (fun z => z.b)) i none))) :
    TbAt F W' t { D with nh := n', held := updC D.held i none } := by
  obtain ⟨σ, h1, h2⟩ := h
  have hhb := h2.hm1 hb hh
  refine ⟨upd σ hb (.hmap n' (updC (fun j => (D.held j).map (fun z : Hx => z.b)) i none)), h1.turn hO (h1 _ _ hhb).1 (Nat.lt_of_lt_of_le (h1 _ _ hhb).2.1 hO.size) c3, ?_⟩
  have old : ∀ j y, updC D.held i none j = some y → D.held j = some y := fun j y hj => by
    by_cases e : j = i
    · subst e; rw [updC_same] at hj; cases hj
    · rwa [updC_other _ _ e] at hj
  refine ⟨upd_keep _ h2.tb hhb (fun q => by cases q), fun e => ?_, fun b e => ?_, h2.rm0, fun b e => upd_keep _ (h2.rm1 b e) hhb (fun q => by cases q), h2.wm0, fun b e => upd_keep _ (h2.wm1 b e) hhb (fun q => by cases q), ?_, ?_, ?_, ?_⟩
  · rw [show D.hm = none from e] at hh
    cases hh
  · have : hb = b := Option.some.inj (hh.symm.trans e)
    subst this
    show upd _ hb _ hb = some (.hmap n' (fun j => (updC D.held i none j).map (fun z => z.b)))
    rw [upd_at, map_updC]
    rfl
  · exact fun j y hj => upd_keep _ (h2.hd j y (old j y hj)) hhb (fun q => by cases q)
  · exact fun j y hj => upd_keep _ (h2.th j y (old j y hj)) hhb (fun q => by cases q)
  · exact fun j y hj => upd_keep _ (h2.rw j y hj) hhb (fun q => by cases q)
  · intro j y hj
    rcases h2.ls j y hj with q | ⟨g, q1, q2⟩
    · exact .inl q
    · exact .inr ⟨g, q1, upd_keep _ q2 hhb (fun q => by cases q)⟩
/-- A row of those that wait turns. -/
theorem TbAt.rowTurn (h : TbAt F W t D) {i : Int} {x : Rx} (hi : D.rows i = some x) {v' : Value} {L' : List Lk} {g' : Nat} (hO : Only (fun k => k = x.b ∨ k = g') W W') (hb : W'.heap[x.b]? = some (.cells #[v'] 76 (0, 0))) (hg : v'.ownBlock = some g') (hgn : x.v.ownBlock = some g' ∨ W.heap.size ≤ g') (hgl : g' < W'.heap.size) (hls : RwAt W' g' v' L') :
    TbAt (Grown F W) W' t { D with rows := updC D.rows i (some ⟨x.b, v', L'⟩) } := by
  obtain ⟨σ, h1, h2⟩ := h
  have hrw := h2.rw i x hi
  have hxl := (h1 _ _ hrw).2.1
  have hg1 : σ g' = none ∨ σ g' = some (.ls i x.v x.L) := by
    rcases hgn with q | q
    · rcases h2.ls i x hi with ⟨e, _⟩ | ⟨g, e1, e2⟩
      · rw [e] at q; cases q
      · rw [e1] at q; cases q; exact .inr e2
    · exact .inl (h1.new q)
  have hFg : Grown F W g' := by
    rcases hgn with q | q
    · rcases h2.ls i x hi with ⟨e, _⟩ | ⟨g, e1, e2⟩
      · rw [e] at q; cases q
      · rw [e1] at q; cases q; exact .inl (h1 _ _ e2).1
    · exact .inr q
  have k1 : ∀ k c, σ k = some c → (∀ v L, c ≠ .ls i v L) → upd σ g' (.ls i v' L') k = some c := fun k c hk hc => by
    rcases hg1 with q | q
    · exact upd_fresh _ hk q
    · exact upd_keep _ hk q (hc _ _)
  have hrw1 := k1 _ _ hrw (fun _ _ q => by cases q)
  have hgb : g' ≠ x.b := fun e => by
    rw [← e, upd_at] at hrw1
    cases hrw1
  have k2 : ∀ k c, σ k = some c → (∀ v L, c ≠ .ls i v L) → (∀ v, c ≠ .rw i v) → upd (upd σ g' (.ls i v' L')) x.b (.rw i v') k = some c := fun k c hk hc hd => upd_keep _ (k1 k c hk hc) hrw1 (hd _)
  refine ⟨upd (upd σ g' (.ls i v' L')) x.b (.rw i v'), h1.step hO (fun k hk => .inl hk) (fun k c hk => ?_), ?_⟩
  · by_cases e1 : k = x.b
    · subst e1
      rw [upd_at] at hk
      cases hk
      exact .inr ⟨.inl (h1 _ _ hrw).1, Nat.lt_of_lt_of_le hxl hO.size, hb⟩
    · rw [upd_ne _ _ e1] at hk
      by_cases e2 : k = g'
      · subst e2
        rw [upd_at] at hk
        cases hk
        exact .inr ⟨hFg, hgl, hls⟩
      · rw [upd_ne _ _ e2] at hk
        exact .inl ⟨hk, fun q => q.elim e1 e2⟩
  · refine ⟨k2 _ _ h2.tb (fun _ _ q => by cases q) (fun _ q => by cases q), h2.hm0, fun b e => k2 _ _ (h2.hm1 b e) (fun _ _ q => by cases q) (fun _ q => by cases q), fun e => ?_, fun b e => ?_, h2.wm0, fun b e => k2 _ _ (h2.wm1 b e) (fun _ _ q => by cases q) (fun _ q => by cases q), ?_, ?_, ?_, ?_⟩
    · have := (h2.rm0 e).2 i
      rw [hi] at this
      cases this
    · show upd (upd σ g' (.ls i v' L')) x.b (.rw i v') b = some (.rmap D.nr (fun j => (updC D.rows i (some ⟨x.b, v', L'⟩) j).map (fun z => z.b)))
      rw [rptr_turn (y := ⟨x.b, v', L'⟩) hi rfl]
      exact k2 _ _ (h2.rm1 b e) (fun _ _ q => by cases q) (fun _ q => by cases q)
    · exact fun j y hj => k2 _ _ (h2.hd j y hj) (fun _ _ q => by cases q) (fun _ q => by cases q)
    · exact fun j y hj => k2 _ _ (h2.th j y hj) (fun _ _ q => by cases q) (fun _ q => by cases q)
    · intro j y hj
      by_cases e : j = i
      · subst e
        have e1 := (updC_same D.rows j (some ⟨x.b, v', L'⟩)).symm.trans hj
        cases e1
        exact upd_at _ _ _
      · exact k2 _ _ (h2.rw j y ((updC_other D.rows _ e).symm.trans hj)) (fun _ _ q => by cases q) (fun _ q => by cases q; exact e rfl)
    · intro j y hj
      by_cases e : j = i
      · subst e
        have e1 := (updC_same D.rows j (some ⟨x.b, v', L'⟩)).symm.trans hj
        cases e1
        exact .inr ⟨g', hg, by rw [upd_ne _ _ hgb, upd_at]⟩
      · rcases h2.ls j y ((updC_other D.rows _ e).symm.trans hj) with q | ⟨g, q1, q2⟩
        · exact .inl q
        · exact .inr ⟨g, q1, k2 _ _ q2 (fun _ _ q => by cases q; exact e rfl) (fun _ q => by cases q)⟩
/-- A row that was not. -/
theorem TbAt.rowAdd (h : TbAt F W t D) {rb : Nat} (hr : D.rm = some rb) {i : Int} (hi : D.rows i = none) {b n' : Nat} (hO : Only (fun k => k = rb) W W') (hb : W.heap.size ≤ b) (hb' : b < W'.heap.size) (hF : ∀ k, F k → F' k) (hFb : F' b) (c1 : W'.heap[b]? = some (.cells #[.slice none 0 0] 76 (0, 0)))
    (c3 : MAt W' 3 rb n' (intF ptV (updC (fun j => (D.rows j).map (fun z => z.b)) i (some b)))) : TbAt F' W' t { D with nr := n', rows := updC D.rows i (some ⟨b, .slice none 0 0, []⟩) } := by
  obtain ⟨σ, h1, h2⟩ := h
  have f1 : σ b = none := h1.new hb
  have hrb := h2.rm1 rb hr
  have hrl := (h1 _ _ hrb).2.1
  have hne : b ≠ rb := by omega
  have k2 : ∀ c' k c, σ k = some c → c ≠ .rmap D.nr (fun i => (D.rows i).map (fun z => z.b)) → upd (upd σ b (.rw i (.slice none 0 0))) rb c' k = some c := fun c' k c hk hc => upd_keep _ (upd_fresh _ hk f1) (upd_fresh _ hrb f1) hc
  refine ⟨upd (upd σ b (.rw i (.slice none 0 0))) rb (.rmap n' (updC (fun j => (D.rows j).map (fun z => z.b)) i (some b))), h1.step hO hF (fun k c hk => ?_), ?_⟩
  · by_cases e1 : k = rb
    · subst e1
      rw [upd_at] at hk
      cases hk
      exact .inr ⟨hF _ (h1 _ _ hrb).1, Nat.lt_of_lt_of_le hrl hO.size, c3⟩
    · rw [upd_ne _ _ e1] at hk
      by_cases e2 : k = b
      · subst e2
        rw [upd_at] at hk
        cases hk
        exact .inr ⟨hFb, hb', c1⟩
      · rw [upd_ne _ _ e2] at hk
        exact .inl ⟨hk, e1⟩
  · refine ⟨k2 _ _ _ h2.tb (fun q => by cases q), h2.hm0, fun b e => k2 _ _ _ (h2.hm1 b e) (fun q => by cases q), fun e => ?_, fun b' e => ?_, h2.wm0, fun b e => k2 _ _ _ (h2.wm1 b e) (fun q => by cases q), ?_, ?_, ?_, ?_⟩
    · rw [show D.rm = none from e] at hr
      cases hr
    · have : rb = b' := Option.some.inj (hr.symm.trans e)
      subst this
      show upd _ rb _ rb = some (.rmap n' (fun j => (updC D.rows i (some ⟨b, .slice none 0 0, []⟩) j).map (fun z => z.b)))
      rw [upd_at, map_updC]
      rfl
    · exact fun j y hj => k2 _ _ _ (h2.hd j y hj) (fun q => by cases q)
    · exact fun j y hj => k2 _ _ _ (h2.th j y hj) (fun q => by cases q)
    · intro j y hj
      by_cases e : j = i
      · subst e
        have e1 := (updC_same D.rows j (some ⟨b, .slice none 0 0, []⟩)).symm.trans hj
        cases e1
        show upd _ rb _ b = _
        rw [upd_ne _ _ hne, upd_at]
      · exact k2 _ _ _ (h2.rw j y ((updC_other D.rows _ e).symm.trans hj)) (fun q => by cases q)
    · intro j y hj
      by_cases e : j = i
      · subst e
        have e1 := (updC_same D.rows j (some ⟨b, .slice none 0 0, []⟩)).symm.trans hj
        cases e1
        exact .inl ⟨rfl, rfl⟩
      · rcases h2.ls j y ((updC_other D.rows _ e).symm.trans hj) with q | ⟨g, q1, q2⟩
        · exact .inl q
        · exact .inr ⟨g, q1, k2 _ _ _ q2 (fun q => by cases q)⟩
/-- A row is forgotten. -/
theorem TbAt.rowDel (h : TbAt F W t D) {rb : Nat} (hr : D.rm = some rb) {i : Int} {n' : Nat} (hO : Only (fun k => k = rb) W W') (c3 : MAt W' 3 rb n' (intF ptV (updC (fun j => (D.rows j).map (fun z => z.b)) i none))) :
    TbAt F W' t { D with nr := n', rows := updC D.rows i none } := by
  obtain ⟨σ, h1, h2⟩ := h
  have hhb := h2.rm1 rb hr
  refine ⟨upd σ rb (.rmap n' (updC (fun j => (D.rows j).map (fun z : Rx => z.b)) i none)), h1.turn hO (h1 _ _ hhb).1 (Nat.lt_of_lt_of_le (h1 _ _ hhb).2.1 hO.size) c3, ?_⟩
  have old : ∀ j y, updC D.rows i none j = some y → D.rows j = some y := fun j y hj => by
    by_cases e : j = i
    · subst e; rw [updC_same] at hj; cases hj
    · rwa [updC_other _ _ e] at hj
  refine ⟨upd_keep _ h2.tb hhb (fun q => by cases q), h2.hm0, fun b e => upd_keep _ (h2.hm1 b e) hhb (fun q => by cases q), fun e => ?_, fun b e => ?_, h2.wm0, fun b e => upd_keep _ (h2.wm1 b e) hhb (fun q => by cases q), ?_, ?_, ?_, ?_⟩
  · rw [show D.rm = none from e] at hr
    cases hr
  · have : rb = b := Option.some.inj (hr.symm.trans e)
    subst this
    show upd _ rb _ rb = some (.rmap n' (fun j => (updC D.rows i none j).map (fun z => z.b)))
    rw [upd_at, map_updC]
    rfl
  · exact fun j y hj => upd_keep _ (h2.hd j y hj) hhb (fun q => by cases q)
  · exact fun j y hj => upd_keep _ (h2.th j y hj) hhb (fun q => by cases q)
  · exact fun j y hj => upd_keep _ (h2.rw j y (old j y hj)) hhb (fun q => by cases q)
  · intro j y hj
    rcases h2.ls j y (old j y hj) with q | ⟨g, q1, q2⟩
    · exact .inl q
    · exact .inr ⟨g, q1, upd_keep _ q2 hhb (fun q => by cases q)⟩
/-- Who waits for what turns. -/
theorem TbAt.waitTurn (h : TbAt F W t D) {wb : Nat} (hw : D.wm = some wb) {f : Int → Option Lk} {n' : Nat} (hO : Only (fun k => k = wb) W W') (c3 : MAt W' 3 wb n' (intF lkV f)) :
    TbAt F W' t { D with nw := n', waits := f } := by
  obtain ⟨σ, h1, h2⟩ := h
  have hhb := h2.wm1 wb hw
  refine ⟨upd σ wb (.wmap n' f), h1.turn hO (h1 _ _ hhb).1 (Nat.lt_of_lt_of_le (h1 _ _ hhb).2.1 hO.size) c3, ?_⟩
  refine ⟨upd_keep _ h2.tb hhb (fun q => by cases q), h2.hm0, fun b e => upd_keep _ (h2.hm1 b e) hhb (fun q => by cases q), h2.rm0, fun b e => upd_keep _ (h2.rm1 b e) hhb (fun q => by cases q), fun e => ?_, fun b e => ?_, ?_, ?_, ?_, ?_⟩
  · rw [show D.wm = none from e] at hw
    cases hw
  · have : wb = b := Option.some.inj (hw.symm.trans e)
    subst this
    exact upd_at _ _ _
  · exact fun j y hj => upd_keep _ (h2.hd j y hj) hhb (fun q => by cases q)
  · exact fun j y hj => upd_keep _ (h2.th j y hj) hhb (fun q => by cases q)
  · exact fun j y hj => upd_keep _ (h2.rw j y hj) hhb (fun q => by cases q)
  · intro j y hj
    rcases h2.ls j y hj with q | ⟨g, q1, q2⟩
    · exact .inl q
    · exact .inr ⟨g, q1, upd_keep _ q2 hhb (fun q => by cases q)⟩
def Td.none : Td := ⟨.none, .none, .none, 0, 0, 0, fun _ => .none, fun _ => .none, fun _ => .none⟩
def Td.made (a b c : Nat) : Td := ⟨some a, some b, some c, 0, 0, 0, fun _ => .none, fun _ => .none, fun _ => .none⟩
/-- A table of which nothing was asked yet. -/
theorem TbAt.fresh {t : Nat} (hF : F t) (hb : W.heap[t]? = some (.cells #[.map none, .map none, .map none] 54 (0, 0))) : TbAt F W t Td.none := by
  refine ⟨fun k => if k = t then some (.tb none none none) else none, fun k c hk => ?_, ?_⟩
  · by_cases e : k = t
    · subst e
      simp at hk
      subst hk
      exact ⟨hF, lt_of_block hb, hb⟩
    · simp [e] at hk
  · refine ⟨by simp [Td.none], fun _ => ⟨rfl, fun _ => rfl⟩, fun b e => (by cases e), fun _ => ⟨rfl, fun _ => rfl⟩, fun b e => (by cases e), fun _ => ⟨rfl, fun _ => rfl⟩, fun b e => (by cases e), fun i x e => (by cases e), fun i x e => (by cases e), fun i x e => (by cases e), fun i x e => (by cases e)⟩
/-- Its maps are made. -/
theorem TbAt.start (hF : F t) {a b c : Nat} (hFa : F a) (hFb : F b) (hFc : F c) (hab : a ≠ b) (hac : a ≠ c) (hbc : b ≠ c) (hta : t ≠ a) (htb : t ≠ b) (htc : t ≠ c) (h0 : W.heap[t]? = some (.cells #[.map (some a), .map (some b), .map (some c)] 54 (0, 0)))
    (ha : MAt W 3 a 0 (fun _ => none)) (hb : MAt W 3 b 0 (fun _ => none)) (hc : MAt W 3 c 0 (fun _ => none)) : TbAt F W t (Td.made a b c) := by
  refine ⟨fun k => if k = t then some (.tb (some a) (some b) (some c)) else if k = a then some (.hmap 0 (fun _ => none)) else if k = b then some (.rmap 0 (fun _ => none)) else if k = c then some (.wmap 0 (fun _ => none)) else none, fun k q hk => ?_, ?_⟩
  · have z : ∀ {α : Type} (e : α → Value) (key : Value) (kl : Lit), keyOf Try.prog 3 key = some kl → (fun _ : Lit => (none : Option Value)) kl = intF e (fun _ => none) kl := fun e _ kl _ => by
      show none = intF e (fun _ => none) kl
      unfold intF
      split <;> rfl
    dsimp only at hk
    by_cases e : k = t
    · subst e
      simp at hk
      subst hk
      exact ⟨hF, lt_of_block h0, h0⟩
    · rw [if_neg e] at hk
      by_cases e : k = a
      · subst e
        simp at hk
        subst hk
        exact ⟨hFa, ha.lt, ha.say (z _)⟩
      · rw [if_neg e] at hk
        by_cases e : k = b
        · subst e
          simp at hk
          subst hk
          exact ⟨hFb, hb.lt, hb.say (z _)⟩
        · rw [if_neg e] at hk
          by_cases e : k = c
          · subst e
            simp at hk
            subst hk
            exact ⟨hFc, hc.lt, hc.say (z _)⟩
          · simp [e] at hk
  · refine ⟨by simp [Td.made], fun e => (by cases e), fun x e => ?_, fun e => (by cases e), fun x e => ?_, fun e => (by cases e), fun x e => ?_, fun i x e => (by cases e), fun i x e => (by cases e), fun i x e => (by cases e), fun i x e => (by cases e)⟩
    · cases e
      simp [Td.made, hta.symm]
    · cases e
      simp [Td.made, htb.symm, hab.symm]
    · cases e
      simp [Td.made, htc.symm, hac.symm, hbc.symm]
end
end Go.Proofs.Ytoediflikoedaaa
