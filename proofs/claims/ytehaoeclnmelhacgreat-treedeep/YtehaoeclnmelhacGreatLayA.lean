/-
  Laws on worlds, on rows of bytes and on regions that draw their order: nothing of the program is named but its types' numbers.
-/
import Derived.WalkKit
import Derived.OneCell
import Derived.Lib.SliceRun
import Derived.Laws.CopyOwn
import Derived.ArgAppend
import Derived.Deep.RegionLaw
import Derived.Shelf.Abstract
import Derived.Laws.BytesArg
import Derived.Laws.AppendOwnNone
import Derived.Laws.BitsAllLaws
import Derived.Deep.RegionHeld3
import Derived.Test.YtehaoeclnmelhacGreatProg
import Derived.Test.YtehaoeclnmelhacGreatChecked
import Derived.OpenShut
import Derived.BigQuiet
import Derived.Deep.QuietTactic
import Derived.Deep.RegionWith
namespace Go.RowKit
theorem Hid.mk {p : Prop} (h : p) : Hid p := h
end Go.RowKit
namespace Go.Proofs.YtehaoeclnmelhacGreat
open Go Go.Proofs Go.RowKit Go.Shelf
/-- Only blocks of S (of those that lay) may have turned. -/
structure Only (S : Nat → Prop) (w w' : World) : Prop where
  os : w'.os = w.os
  tape : w'.tape = w.tape
  output : w'.output = w.output
  size : w.heap.size ≤ w'.heap.size
  block : ∀ k, k < w.heap.size → ¬ S k → w'.heap[k]? = w.heap[k]?
theorem Only.refl (S : Nat → Prop) (w : World) : Only S w w := ⟨rfl, rfl, rfl, Nat.le_refl _, fun _ _ _ => rfl⟩
set_option maxRecDepth 100000 in
theorem Only.trans {S T : Nat → Prop} {a b c : World} (h : Only S a b) (k : Only T b c) (hT : ∀ i, T i → S i ∨ a.heap.size ≤ i) : Only S a c :=
  ⟨k.os.trans h.os, k.tape.trans h.tape, k.output.trans h.output, Nat.le_trans h.size k.size, fun i hi hs =>
    (k.block i (Nat.lt_of_lt_of_le hi h.size) (fun t => (hT i t).elim hs (fun x => by omega))).trans (h.block i hi hs)⟩
theorem Only.mono {S T : Nat → Prop} {a b : World} (h : Only S a b) (hT : ∀ i, i < a.heap.size → S i → T i) : Only T a b :=
  ⟨h.os, h.tape, h.output, h.size, fun i hi hs => h.block i hi (fun s => hs (hT i hi s))⟩
theorem Only.of_below {B : Nat} {a b : World} (S : Nat → Prop) (h : Below B a b) (hB : ∀ k, B ≤ k → k < a.heap.size → S k) : Only S a b :=
  ⟨h.os, h.tape, h.output, h.size, fun k hk hs => h.block k (by
    rcases Nat.lt_or_ge k B with h' | h'
    · exact h'
    · exact absurd (hB k h' hk) hs)⟩
theorem Only.of_new {a b : World} (S : Nat → Prop) (h : Below a.heap.size a b) : Only S a b := Only.of_below S h (fun _ h1 h2 => by omega)
theorem Only.below {S : Nat → Prop} {B : Nat} {a b : World} (h : Only S a b) (hB : B ≤ a.heap.size) (hS : ∀ k, S k → B ≤ k) : Below B a b :=
  ⟨h.os, h.tape, h.output, h.size, fun k hk => h.block k (by omega) (fun s => by have := hS k s; omega)⟩
theorem Only.drew {S : Nat → Prop} {a b : World} (h : Only S a b) : Only S a b.drew := ⟨h.os, h.tape, h.output, h.size, h.block⟩
set_option maxRecDepth 100000 in
theorem Only.setCell {S : Nat → Prop} {a w : World} (h : Only S a w) {p : Addr} (hp : S p.block ∨ a.heap.size ≤ p.block) (u : Value) : Only S a (w.setCell p u) :=
  h.trans (T := fun k => k = p.block) ⟨rfl, rfl, rfl, by simp [World.setCell], fun k _ hs => Below.heap_setCell _ _ _ _ hs⟩ (fun i e => by subst e; exact hp)
theorem Only.alloc {S : Nat → Prop} {a w : World} (h : Only S a w) (o : Obj) : Only S a (w.alloc o) :=
  h.trans (T := fun _ => False) ⟨rfl, rfl, rfl, by simp, fun k hk _ => Below.heap_alloc _ _ _ hk⟩ (fun _ e => e.elim)
set_option maxRecDepth 100000 in
theorem Only.grown {S : Nat → Prop} {a w w' : World} {row : Option Nat} (h : Only S a w) (hg : w.grownBy w' row) (hr : ∀ k, row = some k → S k ∨ a.heap.size ≤ k) : Only S a w' :=
  h.trans (T := fun k => row = some k) ⟨hg.os, hg.tape, hg.output, hg.size, fun k hk hs => hg.block k hk (fun e => hs e.symm)⟩ hr
set_option maxRecDepth 100000 in
theorem Only.setRow {S : Nat → Prop} {a w : World} (h : Only S a w) {g : Nat} (hg : S g ∨ a.heap.size ≤ g) (cs : Array Value) : Only S a (w.setRow g cs) :=
  h.trans (T := fun k => k = g) ⟨rfl, rfl, rfl, by simp [World.setRow], fun k _ hs => setRow_other w g k cs hs⟩ (fun i e => by subst e; exact hg)
/-! blocks of cells -/
theorem blk_cell {w : World} {b : Nat} {c : Array Value} {t : TypeId} {fr : Nat × Nat} (h : w.heap[b]? = some (.cells c t fr)) (i : Nat) : w.cell? ⟨b, i, none⟩ = c[i]? := by simp [World.cell?, h]
theorem blk_free {w : World} {b : Nat} {c : Array Value} {t : TypeId} (h : w.heap[b]? = some (.cells c t (0, 0))) (i : Nat) : w.frozen? ⟨b, i, none⟩ = false := by simp [World.frozen?, h]
set_option maxRecDepth 100000 in
theorem blk_set {w : World} {b i : Nat} {c : Array Value} {u : Value} {t : TypeId} {fr : Nat × Nat} (h : w.heap[b]? = some (.cells c t fr)) : (w.setCell ⟨b, i, none⟩ u).heap[b]? = some (.cells (c.setIfInBounds i u) t fr) := by
  have hlt := lt_of_block h
  have h' : w.heap[b] = .cells c t fr := by simpa [Array.getElem?_eq_getElem hlt] using h
  show (w.heap.modify b _)[b]? = _
  rw [Array.getElem?_eq_getElem (by simpa using hlt), Array.getElem_modify_self, h']
  rfl
theorem blk_new (w : World) (o : Obj) : (w.alloc o).heap[w.heap.size]? = some o := by
  show (w.heap.push o)[w.heap.size]? = _
  simp
/-- Block k is cells. -/
def IsC (W : World) (k : Nat) : Prop := ∃ c t fr, W.heap[k]? = some (.cells c t fr)
theorem IsC.lt {W : World} {k : Nat} (h : IsC W k) : k < W.heap.size := by
  obtain ⟨c, t, fr, h⟩ := h
  exact lt_of_block h
set_option maxRecDepth 100000 in
theorem owns_isC {w : World} {base : Nat} {e : TypeId} {size : Nat} {v : Value} {n : Nat} {xs : List Value} (h : w.ownsRow base e size v n xs) (k : Nat) (hk : v.ownBlock = some k) : IsC w k := by
  rcases h.2 with ⟨rfl, _⟩ | ⟨g, cap, cur, rfl, hg, hh, _⟩
  · simp [Value.ownBlock] at hk
  · simp [Value.ownBlock] at hk
    subst hk
    exact ⟨_, _, _, hh⟩
set_option maxRecDepth 100000 in
/-- What a slice value owns hangs on its own block alone. -/
theorem owns_at {w w' : World} {base : Nat} {e : TypeId} {size : Nat} {v : Value} {n : Nat} {xs : List Value} (h : w.ownsRow base e size v n xs) (hk : ∀ k, v.ownBlock = some k → w'.heap[k]? = w.heap[k]?) : w'.ownsRow base e size v n xs := by
  obtain ⟨h1, h2⟩ := h
  refine ⟨h1, ?_⟩
  rcases h2 with h2 | ⟨g, cap, cur, hv, hg, hh, r⟩
  · exact .inl h2
  · subst hv
    exact .inr ⟨g, cap, cur, rfl, hg, by rw [hk g rfl]; exact hh, r⟩
set_option maxRecDepth 100000 in
theorem owns_base {w : World} {base base' : Nat} {e : TypeId} {size : Nat} {v : Value} {n : Nat} {xs : List Value} (h : w.ownsRow base e size v n xs) (hb : base' ≤ base) : w.ownsRow base' e size v n xs := by
  obtain ⟨h1, h2⟩ := h
  refine ⟨h1, ?_⟩
  rcases h2 with h2 | ⟨g, cap, cur, hv, hg, r⟩
  · exact .inl h2
  · exact .inr ⟨g, cap, cur, hv, by omega, r⟩
set_option maxRecDepth 100000 in
/-- Raises the base to what the owned block allows. -/
theorem owns_rebase {w : World} {base base' : Nat} {e : TypeId} {size : Nat} {v : Value} {n : Nat} {xs : List Value} (h : w.ownsRow base e size v n xs) (hb : ∀ k, v.ownBlock = some k → base' ≤ k) : w.ownsRow base' e size v n xs := by
  obtain ⟨h1, h2⟩ := h
  refine ⟨h1, ?_⟩
  rcases h2 with h2 | ⟨g, cap, cur, hv, hg, r⟩
  · exact .inl h2
  · subst hv
    exact .inr ⟨g, cap, cur, rfl, hb g rfl, r⟩
set_option maxRecDepth 100000 in
theorem owns_full {w : World} {base g n : Nat} {e : TypeId} {xs : List Value} (h : w.ownsRow base e 1 (.slice (some ⟨g, 0, none⟩) n n) n xs) : base ≤ g ∧ w.heap[g]? = some (.cells xs.toArray e (0, 0)) := by
  obtain ⟨h1, h2⟩ := h
  rcases h2 with h2 | ⟨g', cap, cur, hv, hg, hh, hnc, hm, hsz, ht⟩
  · simp at h2
  · simp at hv
    obtain ⟨rfl, rfl⟩ := hv
    refine ⟨hg, ?_⟩
    rw [hh]
    have e : cur.toList = xs := by
      rw [← ht, List.take_of_length_le (by simp; omega)]
    rw [← e]
set_option maxRecDepth 100000 in
/-- A copy into a row whose block is known, from whatever source: of the rest nothing has turned. -/
theorem wpList_copy_grown {P : Program} {w : World} {ops : Array Oper} {rest : List Oper} {o : Oper} {a : Act} {Q : Exit → Act → World → Prop} (hgd : o.guard = none) (d s : Operand) (dT sT : TypeId)
    (ho : o.op = .call { callee := .builtin .copy, args := #[d, s], argTypes := #[dT, sT] }) (elem : TypeId) (hu : P.underlying dT = some (.slice elem)) (hsz : (P.info? elem).map (·.size) = some 1)
    (dp sp : Option Addr) (dLen dCap sLen sCap : Nat) (hd : a.eval d = .slice dp dLen dCap) (hs : a.eval s = .slice sp sLen sCap)
    (g off : Nat) (cur : List Value) (t : TypeId) (hg : w.heap[g]? = some (.cells cur.toArray t (0, 0))) (cs : List Value) (hn : cs.length = Nat.min sLen dLen)
    (hpos : 0 < cs.length → dp = some ⟨g, off, none⟩ ∧ ∃ ad, sp = some ad ∧ ∀ j v, cs[j]? = some v → w.cell? (ad.add j) = some v)
    (hfit : off + cs.length ≤ cur.length) (h1 : ∀ v ∈ cs, v.oneCell' = true)
    (h : ∀ w', Hid (w'.heap[g]? = some (.cells (splice cur off cs).toArray t (0, 0))) → Hid (w.grownBy w' (some g)) → wpList P ops Q rest (a.put o.dst (goInt cs.length)) w') :
    wpList P ops Q (o :: rest) a w := by
  by_cases h0 : cs.length = 0
  · obtain rfl : cs = [] := List.eq_nil_of_length_eq_zero h0
    refine wpList_copy_nothing hgd d s dT sT ho elem hu hsz dp sp dLen dCap sLen sCap hd hs (by simpa using hn.symm) ?_
    exact h w (show _ = _ by simpa [splice] using hg) (World.grownBy.refl w _)
  · obtain ⟨rfl, ad, rfl, hsrc⟩ := hpos (by omega)
    refine wpList_copy_own hgd d s dT sT ho elem hu hsz g off dLen dCap ad sLen sCap hd hs cur.toArray t hg cs hn hsrc (by simpa using hfit) h1 ?_
    exact h _ (show _ = _ by simpa [splice] using setRow_heap w g _ _ t _ hg) (show World.grownBy _ _ _ from ⟨rfl, rfl, rfl, by simp [World.setRow], fun k _ hs => setRow_other w g k _ (fun e => hs (by rw [e]))⟩)
set_option maxRecDepth 100000 in
/-- append of one element or more onto a row of one's own: the new row is the old one, or a new block. -/
theorem run_append_sep {P : Program} (w : World) (t ty e : TypeId) (i : TypeInfo) (z : Value) (size bytes : Nat) (ht : P.underlying t = some (.slice e)) (hi : P.info? e = some i) (hz : i.zero = some z)
    (hsize : i.size = size) (hby : i.bytes = bytes) (hzs : z.cells.size = size) (hsz : 0 < size)
    (v : Value) (n : Nat) (xs : List Value) (hown : w.ownsRow 0 e size v n xs)
    (a : Addr) (m c : Nat) (news : List Value) (hl : news.length = m * size) (hnews : ∀ j u, news[j]? = some u → w.cell? (a.add j) = some u) (h1 : ∀ u ∈ news, u.oneCell' = true)
    (h63 : n + m ≤ maxLen) (hbytes : (n + m) * bytes ≤ 140737488355328) (hm : 0 < m) :
    ∃ g' cap' w', (Builtin.append_ #[t, t] ty #[v, .slice (some a) m c]).run P w = .ok (.slice (some ⟨g', 0, none⟩) (n + m) cap') w' ∧
      w'.ownsRow 0 e size (.slice (some ⟨g', 0, none⟩) (n + m) cap') (n + m) (xs ++ news) ∧ w.grownBy w' v.ownBlock ∧ (v.ownBlock = some g' ∨ w.heap.size ≤ g') := by
  have form : ∀ {w' : World} {b : Nat} {v' : Value} {l : List Value}, w'.ownsRow b e size v' (n + m) l → ∃ g cap, v' = .slice (some ⟨g, 0, none⟩) (n + m) cap ∧ b ≤ g := by
    intro w' b v' l h
    rcases h.2 with ⟨_, h0⟩ | ⟨g, cap, _, rfl, hg, _⟩
    · omega
    · exact ⟨g, cap, rfl, hg⟩
  rcases hown.2 with ⟨rfl, rfl⟩ | ⟨g, cap, cur, rfl, hg, hh, hnc, hcm, hcs, htake⟩
  · obtain rfl : xs = [] := List.eq_nil_of_length_eq_zero (by simpa using hown.1)
    obtain ⟨v', w', hr, h2, h3, _⟩ := run_append_own (P := P) w w.heap.size t ty e i z size bytes ht hi hz hsize hby hzs hsz (.slice none 0 0) 0 [] (World.ownsRow_nil w _ e size) a m c news hl hnews h1 h63 hbytes (Nat.le_refl _)
    obtain ⟨g, cap, rfl, hg⟩ := form h2
    exact ⟨g, cap, w', hr, owns_base h2 (Nat.zero_le _), h3, .inr hg⟩
  · by_cases hroom : n + m ≤ cap
    · obtain ⟨w', hr, h2, h3⟩ := run_append_fits (P := P) w 0 t ty e i size ht hi hsize g n cap xs hown a m c news hl hnews h1 hroom
      exact ⟨g, cap, w', hr, h2, h3, .inl rfl⟩
    · obtain ⟨v', w', hr, h2, h3⟩ := run_append_arg_grows (P := P) w t ty e i z size bytes ht hi hz hsize hby hzs hsz ⟨g, 0, none⟩ n cap xs hown.1 (hown.cells rfl) a m c news hl hnews (by omega) h63 hbytes
      obtain ⟨g', cap', rfl, hg'⟩ := form h2
      exact ⟨g', cap', w', hr, owns_base h2 (Nat.zero_le _), ⟨h3.os, h3.tape, h3.output, h3.size, fun k hk _ => h3.block k hk (by simp)⟩, .inr hg'⟩
set_option maxRecDepth 100000 in
theorem wp_append_sep {P : Program} {w : World} {o : Oper} {a : Act} {K : Act → World → Prop} {Q : Exit → Act → World → Prop} (s x : Operand) (t : TypeId)
    (ho : o.op = .call { callee := .builtin .append, args := #[s, x], argTypes := #[t, t] })
    (e : TypeId) (i : TypeInfo) (z : Value) (size bytes : Nat) (ht : P.underlying t = some (.slice e)) (hi : P.info? e = some i) (hz : i.zero = some z)
    (hsize : i.size = size) (hby : i.bytes = bytes) (hzs : z.cells.size = size) (hsz : 0 < size)
    (v : Value) (n : Nat) (xs : List Value) (hs : a.eval s = v) (hown : w.ownsRow 0 e size v n xs)
    (ad : Addr) (m c : Nat) (news : List Value) (hx : a.eval x = .slice (some ad) m c) (hl : news.length = m * size) (hnews : ∀ j u, news[j]? = some u → w.cell? (ad.add j) = some u) (h1 : ∀ u ∈ news, u.oneCell' = true)
    (h63 : n + m ≤ maxLen) (hbytes : (n + m) * bytes ≤ 140737488355328) (hm : 0 < m)
    (h : ∀ g' cap' w', w'.ownsRow 0 e size (.slice (some ⟨g', 0, none⟩) (n + m) cap') (n + m) (xs ++ news) → w.grownBy w' v.ownBlock → (v.ownBlock = some g' ∨ w.heap.size ≤ g') →
      K (a.put o.dst (.slice (some ⟨g', 0, none⟩) (n + m) cap')) w') : o.wp P a w K Q := by
  obtain ⟨g', cap', w', hr, h2, h3, h4⟩ := run_append_sep (P := P) w t o.type e i z size bytes ht hi hz hsize hby hzs hsz v n xs hown ad m c news hl hnews h1 h63 hbytes hm
  unfold Oper.wp execOp
  simp only [ho, resolve, invoke, builtin, Sem.run_bind, Sem.run_pure, Result.andThen_ok, List.map_toArray, List.map_cons, List.map_nil, hs, hx, hr]
  exact h g' cap' w' h2 h3 h4
set_option maxRecDepth 100000 in
/-- The same as one step of a region that draws. -/
theorem step_append_sep {P : Program} {ops : Array Oper} {o : Oper} {a : Act} {w : World} {K : Act → World → Prop} {Q : Exit → Act → World → Prop} {E : Prop}
    (hg : o.guard = none) (s x : Operand) (t : TypeId) (hop : o.op = Op.call { callee := Callee.builtin Builtin.append, args := #[s, x], argTypes := #[t, t] })
    (e : TypeId) (i : TypeInfo) (z : Value) (size bytes : Nat) (ht : P.underlying t = some (.slice e)) (hi : P.info? e = some i) (hz : i.zero = some z)
    (hsize : i.size = size) (hby : i.bytes = bytes) (hzs : z.cells.size = size) (hsz : 0 < size)
    (v : Value) (n : Nat) (xs : List Value) (hs : a.eval s = v) (hown : w.ownsRow 0 e size v n xs)
    (ad : Addr) (m c : Nat) (news : List Value) (hx : a.eval x = .slice (some ad) m c) (hl : news.length = m * size) (hnews : ∀ j u, news[j]? = some u → w.cell? (ad.add j) = some u) (h1 : ∀ u ∈ news, u.oneCell' = true)
    (h63 : n + m ≤ maxLen) (hbytes : (n + m) * bytes ≤ 140737488355328) (hm : 0 < m)
    (h : ∀ g' cap' w', w'.ownsRow 0 e size (.slice (some ⟨g', 0, none⟩) (n + m) cap') (n + m) (xs ++ news) → w.grownBy w' v.ownBlock → (v.ownBlock = some g' ∨ w.heap.size ≤ g') →
      K (a.put o.dst (.slice (some ⟨g', 0, none⟩) (n + m) cap')) w') :
    if Region.wanted o (yielded ops a.tmps) = true then Oper.wp P o a w K Q else E := by
  have hw : Region.wanted o (yielded ops a.tmps) = true := by simp [Region.wanted, hg]
  rw [if_pos hw]
  exact wp_append_sep s x t hop e i z size bytes ht hi hz hsize hby hzs hsz v n xs hs hown ad m c news hx hl hnews h1 h63 hbytes hm h
set_option maxRecDepth 100000 in
/-- A call of a Go function by its contract, as one step of a region that draws. -/
theorem step_call {P : Program} {ops : Array Oper} {o : Oper} {a : Act} {w : World} {K : Act → World → Prop} {Q : Exit → Act → World → Prop} {E : Prop}
    (hg : o.guard = none) (f : Nat) (args : Array Operand) (tys : Array TypeId) (hop : o.op = Op.call { callee := .value (.func f), args := args, argTypes := tys })
    (eg : ∀ vs w, (callFunc f vs).run P w = .ok (.enter f vs) w) (vs : Array Value) (hvs : args.map a.eval = vs) {R : Ending → World → Prop} (hc : Calls P f vs w R)
    (hK : ∀ e w', R e w' → ∃ v, e = .returned v ∧ K (a.put o.dst v) w') :
    if Region.wanted o (yielded ops a.tmps) = true then Oper.wp P o a w K Q else E := by
  have hw : Region.wanted o (yielded ops a.tmps) = true := by simp [Region.wanted, hg]
  rw [if_pos hw]
  have hrun : (execOp a.eval o).run P w = .ok (.enter f vs) w := by
    subst hvs
    simp [execOp, hop, resolve, invoke, Act.eval, go_sem, eg]
  unfold Oper.wp
  rw [hrun, Oper.upon_enter]
  refine hc.mono ?_
  intro e w' hr
  obtain ⟨v, rfl, hk⟩ := hK e w' hr
  exact hk
set_option maxRecDepth 100000 in
theorem step_call1 {P : Program} {ops : Array Oper} {o : Oper} {a : Act} {w : World} {K : Act → World → Prop} {Q : Exit → Act → World → Prop} {E : Prop}
    (hg : o.guard = none) (f : Nat) (x : Operand) (tys : Array TypeId) (hop : o.op = Op.call { callee := .value (.func f), args := #[x], argTypes := tys })
    (eg : ∀ vs w, (callFunc f vs).run P w = .ok (.enter f vs) w) (v : Value) (hx : a.eval x = v) {R : Ending → World → Prop} (hc : Calls P f #[v] w R)
    (hK : ∀ e w', R e w' → ∃ v, e = .returned v ∧ K (a.put o.dst v) w') :
    if Region.wanted o (yielded ops a.tmps) = true then Oper.wp P o a w K Q else E :=
  step_call hg f #[x] tys hop eg #[v] (by simp [hx]) hc hK
set_option maxRecDepth 100000 in
theorem step_call2 {P : Program} {ops : Array Oper} {o : Oper} {a : Act} {w : World} {K : Act → World → Prop} {Q : Exit → Act → World → Prop} {E : Prop}
    (hg : o.guard = none) (f : Nat) (x y : Operand) (tys : Array TypeId) (hop : o.op = Op.call { callee := .value (.func f), args := #[x, y], argTypes := tys })
    (eg : ∀ vs w, (callFunc f vs).run P w = .ok (.enter f vs) w) (v u : Value) (hx : a.eval x = v) (hy : a.eval y = u) {R : Ending → World → Prop} (hc : Calls P f #[v, u] w R)
    (hK : ∀ e w', R e w' → ∃ v, e = .returned v ∧ K (a.put o.dst v) w') :
    if Region.wanted o (yielded ops a.tmps) = true then Oper.wp P o a w K Q else E :=
  step_call hg f #[x, y] tys hop eg #[v, u] (by simp [hx, hy]) hc hK
set_option maxRecDepth 100000 in
/-- The same, whatever the guard, where it says yes. -/
theorem step_call1w {P : Program} {ops : Array Oper} {o : Oper} {a : Act} {w : World} {K : Act → World → Prop} {Q : Exit → Act → World → Prop} {E : Prop}
    (hw : Region.wanted o (yielded ops a.tmps) = true) (f : Nat) (x : Operand) (tys : Array TypeId) (hop : o.op = Op.call { callee := .value (.func f), args := #[x], argTypes := tys })
    (eg : ∀ vs w, (callFunc f vs).run P w = .ok (.enter f vs) w) (v : Value) (hx : a.eval x = v) {R : Ending → World → Prop} (hc : Calls P f #[v] w R)
    (hK : ∀ e w', R e w' → ∃ v, e = .returned v ∧ K (a.put o.dst v) w') :
    if Region.wanted o (yielded ops a.tmps) = true then Oper.wp P o a w K Q else E := by
  rw [if_pos hw]
  have hrun : (execOp a.eval o).run P w = .ok (.enter f #[v]) w := by
    subst hx
    simp [execOp, hop, resolve, invoke, Act.eval, go_sem, eg]
  unfold Oper.wp
  rw [hrun, Oper.upon_enter]
  refine hc.mono ?_
  intro e w' hr
  obtain ⟨v, rfl, hk⟩ := hK e w' hr
  exact hk
/-! the disk -/
/-- Bytes as cells. -/
def By (xs : List Int) : List Value := xs.map (Value.int .u8)
theorem By_length (xs : List Int) : (By xs).length = xs.length := by simp [By]
theorem By_get (xs : List Int) (i : Nat) (h : i < xs.length) : (By xs)[i]? = some (.int .u8 (xs.getD i 0)) := by simp [By, List.getD, List.getElem?_eq_getElem h]
theorem By_one (xs : List Int) : ∀ u ∈ By xs, u.oneCell' = true := by
  intro u hu
  obtain ⟨x, _, rfl⟩ := List.mem_map.1 hu
  rfl
theorem splice_By (xs ys : List Int) (off : Nat) : splice (By xs) off (By ys) = By (splice xs off ys) := by simp [splice, By]
theorem add_at (b o i : Nat) : (⟨b, o, none⟩ : Addr).add i = ⟨b, o + i, none⟩ := by
  unfold Addr.add
  split
  · next h => subst h; rfl
  · rfl
set_option maxRecDepth 100000 in
theorem bytes_at {W : World} {b : Nat} {xs : List Int} {t : TypeId} {fr : Nat × Nat} (h : W.heap[b]? = some (.cells (By xs).toArray t fr)) (o j : Nat) (hj : o + j < xs.length) :
    W.cell? ((⟨b, o, none⟩ : Addr).add j) = some (.int .u8 (xs.getD (o + j) 0)) := by
  rw [add_at, blk_cell h]
  simpa using By_get xs (o + j) hj
set_option maxRecDepth 100000 in
/-- A row of bytes that is owned: where it lies and what its cells hold. -/
theorem owns_bytes {w : World} {base : Nat} {v : Value} {n : Nat} {xs : List Int} (h : w.ownsRow base 5 1 v n (By xs)) (hv : v ≠ .slice none 0 0) :
    ∃ g cap, v = .slice (some ⟨g, 0, none⟩) n cap ∧ base ≤ g ∧ g < w.heap.size ∧ n ≤ cap ∧ xs.length = n ∧ (∀ i, i < n → w.cell? ((⟨g, 0, none⟩ : Addr).add i) = some (.int .u8 (xs.getD i 0))) := by
  obtain ⟨h1, h2⟩ := h
  rcases h2 with h2 | ⟨g, cap, cur, rfl, hg, hh, hnc, hm, hsz, ht⟩
  · exact absurd h2.1 hv
  · rw [By_length] at h1
    refine ⟨g, cap, rfl, hg, lt_of_block hh, hnc, by omega, fun i hi => ?_⟩
    rw [add_at, blk_cell hh, Nat.zero_add]
    have e : cur.toList[i]? = (By xs)[i]? := by
      rw [← ht, List.getElem?_take, if_pos (by omega)]
    rw [← Array.getElem?_toList, e]
    exact By_get xs i (by omega)
section
variable {P : Program} {ops : Array Oper} {Q : Exit → Act → World → Prop} {md : Region.Mode} {S : World → Prop} {fuel : Nat} {listed : Array Bool} {t : Array Value} {w : World}
set_option maxRecDepth 100000 in
/-- Takes operation i first: it yields v wherever S holds; the frame behind it in one word. -/
theorem takeH (i d : Nat) (v : Value) {oi : Oper} (hi : ops[i]? = some oi) (hd : oi.dst = some d) (hs : Region.noSelect ops = true) (hf : Region.free md ops listed i = true) (hr : (Region.ready md ops listed).contains i = true)
    (hQ : ∀ c a w, Q (.panic c) (a.put oi.dst v) w → Q (.panic c) a w) (hw : Region.wanted oi (yielded ops t) = true) (hrun : ∀ w, S w → (execOp (Act.eval { tmps := t, defers := [] }) oi).run P w = .ok (.value v) w) (hS : S w)
    (h : wpAnyH P md ops Q S fuel (listed.setIfInBounds i true) { tmps := t.setIfInBounds d v, defers := [] } w) : wpAnyH P md ops Q S (fuel + 1) listed { tmps := t, defers := [] } w := by
  refine wpAnyH_take hi hs hf hr hQ (.inl ⟨hw, hrun⟩) hS ?_
  rw [show (Act.put { tmps := t, defers := [] } oi.dst v) = { tmps := t.setIfInBounds d v, defers := [] } from by simp [Act.put, hd]]
  exact h
set_option maxRecDepth 100000 in
/-- The same for one that its guard passes over. -/
theorem skipH (i d : Nat) {oi : Oper} (hi : ops[i]? = some oi) (hd : oi.dst = some d) (hs : Region.noSelect ops = true) (hf : Region.free md ops listed i = true) (hr : (Region.ready md ops listed).contains i = true)
    (hQ : ∀ c a w, Q (.panic c) (a.put oi.dst undef) w → Q (.panic c) a w) (hw : Region.wanted oi (yielded ops t) = false) (hS : S w)
    (h : wpAnyH P md ops Q S fuel (listed.setIfInBounds i true) { tmps := t.setIfInBounds d undef, defers := [] } w) : wpAnyH P md ops Q S (fuel + 1) listed { tmps := t, defers := [] } w := by
  refine wpAnyH_take hi hs hf hr hQ (.inr ⟨hw, rfl⟩) hS ?_
  rw [show (Act.put { tmps := t, defers := [] } oi.dst undef) = { tmps := t.setIfInBounds d undef, defers := [] } from by simp [Act.put, hd]]
  exact h
set_option maxRecDepth 100000 in
/-- The one operation that may come up, which yields v in this world. -/
theorem stepH (i d : Nat) (v : Value) {oi : Oper} (hi : ops[i]? = some oi) (hd : oi.dst = some d) (hr : Region.ready md ops listed = [i]) (hw : Region.wanted oi (yielded ops t) = true)
    (hrun : (execOp (Act.eval { tmps := t, defers := [] }) oi).run P w = .ok (.value v) w) (hS : S w)
    (h : wpAnyH P md ops Q S fuel (listed.setIfInBounds i true) { tmps := t.setIfInBounds d v, defers := [] } w) : wpAnyH P md ops Q S (fuel + 1) listed { tmps := t, defers := [] } w := by
  refine wpAnyH_all hr (by simp) (fun j hj => ?_)
  obtain rfl : j = i := by simpa using hj
  unfold wpOp
  rw [hi]
  dsimp only
  rw [if_pos hw]
  left
  unfold Oper.wp
  rw [hrun, Oper.upon_value, show (Act.put { tmps := t, defers := [] } oi.dst v) = { tmps := t.setIfInBounds d v, defers := [] } from by simp [Act.put, hd]]
  exact ⟨hS, h⟩
set_option maxRecDepth 100000 in
/-- The one operation that may come up, which yields v and leaves another world. -/
theorem stepH_run (i d : Nat) (v : Value) (w' : World) {oi : Oper} (hi : ops[i]? = some oi) (hd : oi.dst = some d) (hr : Region.ready md ops listed = [i]) (hw : Region.wanted oi (yielded ops t) = true)
    (hrun : (execOp (Act.eval { tmps := t, defers := [] }) oi).run P w = .ok (.value v) w') (hS : S w')
    (h : wpAnyH P md ops Q S fuel (listed.setIfInBounds i true) { tmps := t.setIfInBounds d v, defers := [] } w') : wpAnyH P md ops Q S (fuel + 1) listed { tmps := t, defers := [] } w := by
  refine wpAnyH_all hr (by simp) (fun j hj => ?_)
  obtain rfl : j = i := by simpa using hj
  unfold wpOp
  rw [hi]
  dsimp only
  rw [if_pos hw]
  left
  unfold Oper.wp
  rw [hrun, Oper.upon_value, show (Act.put { tmps := t, defers := [] } oi.dst v) = { tmps := t.setIfInBounds d v, defers := [] } from by simp [Act.put, hd]]
  exact ⟨hS, h⟩
set_option maxRecDepth 100000 in
/-- The one operation that may come up, a call of a Go function, by its contract. -/
theorem stepH_call (i d : Nat) {oi : Oper} (hi : ops[i]? = some oi) (hd : oi.dst = some d) (hr : Region.ready md ops listed = [i]) (hw : Region.wanted oi (yielded ops t) = true)
    (f : Nat) (xs : Array Operand) (tys : Array TypeId) (hop : oi.op = Op.call { callee := .value (.func f), args := xs, argTypes := tys })
    (eg : ∀ vs w, (callFunc f vs).run P w = .ok (.enter f vs) w) (vs : Array Value) (hvs : xs.map (Act.eval { tmps := t, defers := [] }) = vs)
    {R : Ending → World → Prop} (hc : Calls P f vs w R)
    (h : ∀ e w', R e w' → ∃ u, e = .returned u ∧ S w' ∧ wpAnyH P md ops Q S fuel (listed.setIfInBounds i true) { tmps := t.setIfInBounds d u, defers := [] } w') : wpAnyH P md ops Q S (fuel + 1) listed { tmps := t, defers := [] } w := by
  refine wpAnyH_all hr (by simp) (fun j hj => ?_)
  obtain rfl : j = i := by simpa using hj
  unfold wpOp
  rw [hi]
  dsimp only
  rw [if_pos hw]
  left
  have hrun : (execOp (Act.eval { tmps := t, defers := [] }) oi).run P w = .ok (.enter f vs) w := by
    subst hvs
    simp [execOp, hop, resolve, invoke, Act.eval, go_sem, eg]
  unfold Oper.wp
  rw [hrun, Oper.upon_enter]
  refine hc.mono ?_
  intro e w' hr
  obtain ⟨u, rfl, h1, h2⟩ := h e w' hr
  show S w' ∧ wpAnyH P md ops Q S fuel (listed.setIfInBounds j true) (Act.put { tmps := t, defers := [] } oi.dst u) w'
  rw [show (Act.put { tmps := t, defers := [] } oi.dst u) = { tmps := t.setIfInBounds d u, defers := [] } from by simp [Act.put, hd]]
  exact ⟨h1, h2⟩
end
end Go.Proofs.YtehaoeclnmelhacGreat
namespace Go.Proofs.YtehaoeclnmelhacGreat
open Go Go.Proofs Go.RowKit
/-- Bit k of a byte. -/
def bitB (x : Int) (k : Nat) : Bool := x.toNat.testBit k
/-- Bit q of a row of bytes: none is 0. -/
def getN (xs : List Int) (q : Nat) : Bool := bitB (xs.getD (q / 8) 0) (q % 8)
def getI (xs : List Int) (i : Int) : Bool := decide (0 ≤ i) && getN xs i.toNat
/-- 1 << k as a byte. -/
def maskN (q : Nat) : Int := ((2 ^ (q % 8) : Nat) : Int)
theorem getN_none (xs : List Int) (q : Nat) (h : xs.length ≤ q / 8) : getN xs q = false := by
  unfold getN bitB
  simp [List.getD, List.getElem?_eq_none h]
set_option maxRecDepth 100000 in
theorem maskN_bound (q : Nat) : 0 ≤ maskN q ∧ maskN q ≤ 128 := by
  unfold maskN
  have h : q % 8 < 8 := Nat.mod_lt _ (by omega)
  generalize q % 8 = k at *
  match k, h with
  | 0, _ => decide
  | 1, _ => decide
  | 2, _ => decide
  | 3, _ => decide
  | 4, _ => decide
  | 5, _ => decide
  | 6, _ => decide
  | 7, _ => decide
theorem and_mask (X : Fin 256) (k : Fin 8) : ((X.1 &&& 2 ^ k.1) != 0) = X.1.testBit k.1 := by revert X k; decide +kernel
theorem shr_one (X : Fin 256) (k : Fin 8) : (((X.1 / 2 ^ k.1) &&& 1) == 1) = X.1.testBit k.1 := by revert X k; decide +kernel
theorem set_bit_on (X : Fin 256) (k j : Fin 8) : ((X.1 &&& (255 - 2 ^ k.1)) ||| 2 ^ k.1).testBit j.1 = (decide (j = k) || X.1.testBit j.1) := by revert X k j; decide +kernel
theorem set_bit_off (X : Fin 256) (k j : Fin 8) : (X.1 &&& (255 - 2 ^ k.1)).testBit j.1 = (!decide (j = k) && X.1.testBit j.1) := by revert X k j; decide +kernel
theorem mask_nat (q : Nat) : (maskN q).toNat = 2 ^ (q % 8) := by unfold maskN; exact Int.toNat_natCast _
set_option maxRecDepth 100000 in
theorem u8_mask (x : Int) (q : Nat) (hx : 0 ≤ x ∧ x ≤ 255) : (bits BinOp.and IntKind.u8 x (maskN q) != 0) = bitB x (q % 8) := by
  have hm := maskN_bound q
  rw [u8_and x (maskN q) hx.1 (by omega) hm.1 (by omega), mask_nat]
  have h := and_mask ⟨x.toNat, by omega⟩ ⟨q % 8, by omega⟩
  unfold bitB
  rw [← h]
  dsimp only
  generalize x.toNat &&& 2 ^ (q % 8) = z
  cases z <;> simp <;> omega
set_option maxRecDepth 100000 in
theorem u8_shr (x : Int) (k : Nat) (hk : k < 8) (hx : 0 ≤ x ∧ x ≤ 255) : (bits BinOp.and IntKind.u8 (x / 2 ^ k) 1 == 1) = bitB x k := by
  obtain ⟨X, rfl⟩ := Int.eq_ofNat_of_zero_le hx.1
  have e : (X : Int) / 2 ^ k = ((X / 2 ^ k : Nat) : Int) := by simp
  have hl : X / 2 ^ k ≤ X := Nat.div_le_self _ _
  rw [e, show (1 : Int) = ((1 : Nat) : Int) from rfl, u8_and_nat _ _ (by omega) (by omega)]
  have h := shr_one ⟨X, by omega⟩ ⟨k, hk⟩
  unfold bitB
  simp only [Int.toNat_natCast]
  rw [← h]
  dsimp only
  generalize X / 2 ^ k &&& 1 = z
  rcases Nat.lt_trichotomy z 1 with h | h | h
  · obtain rfl : z = 0 := by omega
    rfl
  · subst h; rfl
  · have h1 : ((z : Int) == 1) = false := by simp; omega
    have h2 : (z == 1) = false := by simp; omega
    rw [h2]
    exact h1
/-- A byte with a bit turned. -/
def setB (x : Int) (q : Nat) (on : Bool) : Int := if on = true then bits BinOp.or IntKind.u8 (bits BinOp.andNot IntKind.u8 x (maskN q)) (maskN q) else bits BinOp.andNot IntKind.u8 x (maskN q)
theorem setB_bound (x : Int) (q : Nat) (on : Bool) : 0 ≤ setB x q on ∧ setB x q on ≤ 255 := by
  unfold setB
  split
  · exact bounds_u8 (wf_bits _ _ _ _)
  · exact bounds_u8 (wf_bits _ _ _ _)
set_option maxRecDepth 100000 in
theorem setB_bit (x : Int) (q j : Nat) (on : Bool) (hx : 0 ≤ x ∧ x ≤ 255) (hj : j < 8) : bitB (setB x q on) j = if j = q % 8 then on else bitB x j := by
  have hm := maskN_bound q
  have ha : bits BinOp.andNot IntKind.u8 x (maskN q) = ((x.toNat &&& (255 - 2 ^ (q % 8)) : Nat) : Int) := by
    rw [u8_andNot x (maskN q) hx.1 (by omega) hm.1 (by omega), mask_nat]
  have hl : x.toNat &&& (255 - 2 ^ (q % 8)) ≤ x.toNat := Nat.and_le_left
  unfold setB
  cases on with
  | true =>
    have h := set_bit_on ⟨x.toNat, by omega⟩ ⟨q % 8, by omega⟩ ⟨j, hj⟩
    rw [if_pos rfl, ha, u8_or _ (maskN q) (by omega) (by omega) hm.1 (by omega), mask_nat]
    unfold bitB
    simp only [Int.toNat_natCast]
    dsimp only at h
    rw [h]
    by_cases e : j = q % 8 <;> simp [e]
  | false =>
    have h := set_bit_off ⟨x.toNat, by omega⟩ ⟨q % 8, by omega⟩ ⟨j, hj⟩
    rw [if_neg (by simp), ha]
    unfold bitB
    simp only [Int.toNat_natCast]
    dsimp only at h
    rw [h]
    by_cases e : j = q % 8 <;> simp [e]
/-- It fits an int. -/
def I64 (i : Int) : Prop := -9223372036854775808 ≤ i ∧ i ≤ 9223372036854775807
/-- Is there a bit i in n bytes? -/
def hasI (n : Nat) (i : Int) : Bool := decide (0 ≤ i) && decide (i.toNat / 8 < n)
theorem hasI_nat (n q : Nat) : hasI n (q : Int) = decide (q / 8 < n) := by simp [hasI]
theorem hasI_neg (n : Nat) (i : Int) (h : i < 0) : hasI n i = false := by simp [hasI]; omega
theorem getI_nat (xs : List Int) (q : Nat) : getI xs (q : Int) = getN xs q := by simp [getI]
theorem getI_no (xs : List Int) (i : Int) (h : hasI xs.length i = false) : getI xs i = false := by
  unfold hasI at h
  unfold getI
  by_cases h0 : 0 ≤ i
  · simp [h0] at h ⊢
    exact getN_none _ _ h
  · simp [h0]
/-- A row with a bit turned. -/
def withI (xs : List Int) (i : Int) (on : Bool) : List Int := if hasI xs.length i = true then xs.set (i.toNat / 8) (setB (xs.getD (i.toNat / 8) 0) i.toNat on) else xs
theorem withI_length (xs : List Int) (i : Int) (on : Bool) : (withI xs i on).length = xs.length := by
  unfold withI; split <;> simp
theorem withI_bound (xs : List Int) (i : Int) (on : Bool) (h : ∀ x ∈ xs, 0 ≤ x ∧ x ≤ 255) : ∀ x ∈ withI xs i on, 0 ≤ x ∧ x ≤ 255 := by
  unfold withI
  split
  · intro x hx
    rcases List.mem_or_eq_of_mem_set hx with h' | h'
    · exact h x h'
    · rw [h']; exact setB_bound _ _ _
  · exact h
theorem getD_bound (xs : List Int) (h : ∀ x ∈ xs, 0 ≤ x ∧ x ≤ 255) (i : Nat) : 0 ≤ xs.getD i 0 ∧ xs.getD i 0 ≤ 255 := by
  by_cases hi : i < xs.length
  · rw [List.getD, List.getElem?_eq_getElem hi]
    exact h _ (List.getElem_mem hi)
  · rw [List.getD, List.getElem?_eq_none (by omega)]
    simp
set_option maxRecDepth 100000 in
/-- What the bits of a row with a bit turned are. -/
theorem getN_with (xs : List Int) (i : Int) (on : Bool) (q : Nat) (h : ∀ x ∈ xs, 0 ≤ x ∧ x ≤ 255) : getN (withI xs i on) q = if hasI xs.length i = true ∧ (q : Int) = i then on else getN xs q := by
  unfold withI
  cases hh : hasI xs.length i with
  | false => simp
  | true =>
    unfold hasI at hh
    simp at hh
    obtain ⟨k, rfl⟩ : ∃ k : Nat, i = k := ⟨i.toNat, by omega⟩
    simp only [Int.toNat_natCast] at hh ⊢
    rw [if_pos trivial]
    unfold getN
    by_cases e8 : q / 8 = k / 8
    · have e1 : (xs.set (k / 8) (setB (xs.getD (k / 8) 0) k on)).getD (q / 8) 0 = setB (xs.getD (k / 8) 0) k on := by
        rw [e8]
        simp [List.getD, hh.2]
      rw [e1, setB_bit _ _ _ _ (getD_bound xs h _) (by omega), e8]
      have e3 : (q % 8 = k % 8) ↔ ((q : Int) = k) := by omega
      by_cases e2 : q % 8 = k % 8
      · rw [if_pos e2, if_pos ⟨trivial, e3.1 e2⟩]
      · rw [if_neg e2, if_neg (fun h => e2 (e3.2 h.2))]
    · rw [if_neg (fun h => e8 (by omega))]
      have e1 : (xs.set (k / 8) (setB (xs.getD (k / 8) 0) k on)).getD (q / 8) 0 = xs.getD (q / 8) 0 := by
        simp [List.getD, List.getElem?_set_ne (Ne.symm e8)]
      rw [e1]
/-- How many of the first e bits are 1. -/
def cntN (xs : List Int) (e : Nat) : Nat := (List.range e).countP (getN xs)
/-- The first bit that is 0, from f on and below e. -/
def fstN (xs : List Int) (e f : Nat) : Option Nat := (List.range' f (e - f)).find? (fun q => !getN xs q)
/-- A number of bits, at most those that there are. -/
def bndI (xs : List Int) (n : Int) : Nat := min n.toNat (8 * xs.length)
def fstV (r : Option Nat) : Value := match r with
  | some q => .tuple #[.int .i64 q, .bool true]
  | none => .tuple #[.int .i64 0, .bool false]
end Go.Proofs.YtehaoeclnmelhacGreat
namespace Go.Proofs.YtehaoeclnmelhacGreat
open Go Go.Proofs Go.RowKit
theorem info5 : (Tryz.prog.info? 5).map (fun i => (i.zero, i.size, i.bytes)) = some (some (.int .u8 0), 1, 1) := by kernel_rfl
theorem info5p : ∃ i0, Tryz.prog.info? 5 = some i0 ∧ i0.zero = some (.int .u8 0) ∧ i0.size = 1 ∧ i0.bytes = 1 := by
  obtain ⟨i0, hi, hz0, hz1, hz2⟩ := info_parts info5
  exact ⟨i0, hi, hz0, hz1, hz2⟩
/-! rows of bytes -/
/-- A slice of bytes as it lies in a world: its bytes where there is one. -/
def BAt (W : World) (ao : Option Addr) (n : Nat) (xs : List Int) : Prop :=
  xs.length = n ∧ (0 < n → ∃ a, ao = some a ∧ a.block < W.heap.size ∧ ∀ i, i < n → W.cell? (a.add i) = some (.int .u8 (xs.getD i 0)))
theorem add_block (a : Addr) (i : Nat) : (a.add i).block = a.block := by unfold Addr.add; split <;> rfl
set_option maxRecDepth 100000 in
theorem BAt.only {S : Nat → Prop} {W W' : World} {ao : Option Addr} {n : Nat} {xs : List Int} (h : BAt W ao n xs) (ho : Only S W W') (hS : ∀ a, ao = some a → a.block < W.heap.size → ¬ S a.block) : BAt W' ao n xs := by
  refine ⟨h.1, fun hn => ?_⟩
  obtain ⟨a, e, hlt, hc⟩ := h.2 hn
  refine ⟨a, e, Nat.lt_of_lt_of_le hlt ho.size, fun i hi => ?_⟩
  rw [World.cell?_of_block (w := W) (by rw [add_block]; exact ho.block _ hlt (hS a e hlt))]
  exact hc i hi
set_option maxRecDepth 100000 in
/-- 'string(b)'. -/
theorem conv_bytes (W : World) (ao : Option Addr) (n c : Nat) (xs : List Int) (h : BAt W ao n xs) : (convert 28 9 (.slice ao n c)).run Tryz.prog W = .ok (.string (strOfNums xs)) W := by
  rw [run_convert_bytes_string W 28 9 5 ao n c Tryz.underlying28 Tryz.underlying5 Tryz.underlying9]
  rcases Nat.eq_zero_or_pos n with h0 | h0
  · subst h0
    obtain rfl : xs = [] := List.eq_nil_of_length_eq_zero h.1
    cases ao <;> simp [Conv.bytesToString, loadCells, strOfNums]
    all_goals rfl
  · obtain ⟨a, rfl, hlt, hc⟩ := h.2 h0
    have hl : (loadCells a n).run Tryz.prog W = .ok (xs.map (Value.int .u8)).toArray W := by
      have := run_loadCells_list (P := Tryz.prog) W a (By xs) (fun j v hj => by
        have hjl := (List.getElem?_eq_some_iff.1 hj).1
        rw [By_length] at hjl
        rw [By_get xs j hjl] at hj
        rw [hc j (by rw [← h.1]; exact hjl)]
        exact hj)
      rw [By_length, h.1] at this
      exact this
    rw [run_bytesToString W a n c xs hl, foldl_push_bytes]
    simp [strOfNums, ByteArray.empty, ByteArray.emptyWithCapacity]
    rfl
set_option maxRecDepth 100000 in
/-- 'append([]byte(nil), b...)'. -/
theorem append_nil_run (W : World) (ao : Option Addr) (n c : Nat) (xs : List Int) (h : BAt W ao n xs) (hbig : n ≤ 140737488355328) (hnone : ao = none → n = 0 ∧ c = 0) :
    ∃ v' W', (Builtin.append_ #[28, 28] 28 #[.slice none 0 0, .slice ao n c]).run Tryz.prog W = .ok v' W' ∧ W'.ownsRow W.heap.size 5 1 v' n (By xs) ∧ W.grownBy W' none := by
  obtain ⟨i0, hi, hz0, hz1, hz2⟩ := info5p
  cases ao with
  | none =>
    obtain ⟨rfl, rfl⟩ := hnone rfl
    obtain rfl : xs = [] := List.eq_nil_of_length_eq_zero h.1
    exact ⟨.slice none 0 0, W, run_append_owned_none (P := Tryz.prog) W W.heap.size 28 28 5 i0 1 Tryz.underlying28 hi (.slice none 0 0) 0 [] (World.ownsRow_nil W _ 5 1), World.ownsRow_nil W _ 5 1, World.grownBy.refl _ _⟩
  | some a =>
    obtain ⟨v', w', hr, h2, h3, _⟩ := run_append_own (P := Tryz.prog) W W.heap.size 28 28 5 i0 (.int .u8 0) 1 1 Tryz.underlying28 hi hz0 hz1 hz2 rfl (by decide) (.slice none 0 0) 0 [] (World.ownsRow_nil W _ 5 1) a n c (By xs) (by rw [By_length, h.1, Nat.mul_one]) (fun j u hj => by
      have hjl := (List.getElem?_eq_some_iff.1 hj).1
      rw [By_length] at hjl
      rw [By_get xs j hjl] at hj
      obtain ⟨a', e, hlt, hc⟩ := h.2 (by have := h.1; omega)
      cases e
      rw [hc j (by rw [← h.1]; exact hjl)]
      exact hj) (By_one xs) (by unfold maxLen; omega) (by omega) (Nat.le_refl _)
    exact ⟨v', w', hr, by simpa using h2, h3⟩
set_option maxRecDepth 100000 in
/-- append whose run is known. -/
theorem wpList_append_known {P : Program} {w : World} {ops : Array Oper} {rest : List Oper} {o : Oper} {a : Act} {Q : Exit → Act → World → Prop} (hgd : o.guard = none) (s x : Operand) (t : TypeId)
    (ho : o.op = .call { callee := .builtin .append, args := #[s, x], argTypes := #[t, t] }) (v vx v' : Value) (w' : World) (hs : a.eval s = v) (hx : a.eval x = vx)
    (hrun : (Builtin.append_ #[t, t] o.type #[v, vx]).run P w = .ok v' w') (h : wpList P ops Q rest (a.put o.dst v') w') : wpList P ops Q (o :: rest) a w := by
  refine wpList_plain hgd fun K hK => ?_
  unfold Oper.wp execOp
  simp only [ho, resolve, invoke, builtin, Sem.run_bind, Sem.run_pure, Result.andThen_ok, List.map_toArray, List.map_cons, List.map_nil, hs, hx, hrun]
  exact hK _ _ h
set_option maxRecDepth 100000 in
theorem owns_BAt {w : World} {base : Nat} {v : Value} {n : Nat} {xs : List Int} (h : w.ownsRow base 5 1 v n (By xs)) : ∃ ao c, v = .slice ao n c ∧ BAt w ao n xs ∧ (∀ a, ao = some a → base ≤ a.block ∧ v.ownBlock = some a.block ∧ a.off = 0 ∧ a.spot = none) ∧ (0 < n → ao ≠ none) := by
  have h' := h
  obtain ⟨h1, h2⟩ := h
  rw [By_length, Nat.mul_one] at h1
  rcases h2 with ⟨rfl, rfl⟩ | ⟨g, cap, cur, rfl, hg, hh, hnc, hm, hsz, ht⟩
  · exact ⟨none, 0, rfl, ⟨h1, fun h => by omega⟩, fun a e => (by cases e), fun h => by omega⟩
  · obtain ⟨g', cap', e, _, hlt, _, _, hcell⟩ := owns_bytes h' (by simp)
    cases e
    exact ⟨_, _, rfl, ⟨h1, fun _ => ⟨_, rfl, hlt, hcell⟩⟩, fun a e => (by cases e; exact ⟨hg, rfl, rfl, rfl⟩), fun _ => by simp⟩
/-- Block g holds n bytes at least, and may be written. -/
def Bytex (W : World) (g n : Nat) : Prop := ∃ cur, W.heap[g]? = some (.cells cur 5 (0, 0)) ∧ ∀ i, i < n → ∃ v : Int, cur[i]? = some (.int .u8 v)
theorem Bytex.at {W : World} {g n : Nat} (h : Bytex W g n) (i : Nat) (hi : i < n) : ∃ v : Int, W.cell? ⟨g, i, none⟩ = some (.int .u8 v) ∧ W.frozen? ⟨g, i, none⟩ = false := by
  obtain ⟨cur, hb, hc⟩ := h
  obtain ⟨v, hv⟩ := hc i hi
  exact ⟨v, by rw [blk_cell hb, hv], blk_free hb i⟩
set_option maxRecDepth 100000 in
theorem Bytex.set {W : World} {g n : Nat} (h : Bytex W g n) (i : Nat) (v : Int) : Bytex (W.setCell ⟨g, i, none⟩ (.int .u8 v)) g n := by
  obtain ⟨cur, hb, hc⟩ := h
  refine ⟨_, blk_set hb, fun j hj => ?_⟩
  by_cases e : i = j
  · subst e
    obtain ⟨u, hu⟩ := hc i hj
    have hlt : i < cur.size := (Array.getElem?_eq_some_iff.1 hu).1
    exact ⟨v, by simp [hlt]⟩
  · obtain ⟨u, hu⟩ := hc j hj
    exact ⟨u, by rw [Array.getElem?_setIfInBounds_ne e]; exact hu⟩
set_option maxRecDepth 100000 in
theorem owns_bytex {w : World} {base : Nat} {v : Value} {n : Nat} {xs : List Int} (h : w.ownsRow base 5 1 v n (By xs)) (g : Nat) (hg : v.ownBlock = some g) : Bytex w g n := by
  obtain ⟨h1, h2⟩ := h
  rcases h2 with h2 | ⟨g', cap, cur, rfl, _, hh, hnc, hm, hsz, ht⟩
  · rw [h2.1] at hg
    simp [Value.ownBlock] at hg
  · simp [Value.ownBlock] at hg
    subst hg
    rw [By_length] at h1
    refine ⟨cur, hh, fun i hi => ?_⟩
    have hi2 : i < xs.length := by omega
    refine ⟨xs[i], ?_⟩
    rw [← Array.getElem?_toList]
    have : cur.toList[i]? = (By xs)[i]? := by rw [← ht, List.getElem?_take, if_pos (by omega)]
    rw [this, By_get xs i hi2]
    simp [List.getD, List.getElem?_eq_getElem hi2]
theorem owns_block {w : World} {base : Nat} {a : Addr} {n c : Nat} {xs : List Value} (h : w.ownsRow base 5 1 (.slice (some a) n c) n xs) : (Value.slice (some a) n c).ownBlock = some a.block := by
  rcases h.2 with ⟨e, _⟩ | ⟨g, cap, cur, e, _⟩
  · cases e
  · cases e; rfl
theorem BAt.at {W : World} {ao : Option Addr} {n : Nat} {xs : List Int} (h : BAt W ao n xs) (i : Nat) (hi : i < n) : ∃ a, ao = some a ∧ W.cell? (a.add i) = some (.int .u8 (xs.getD i 0)) := by
  obtain ⟨a, e, _, hc⟩ := h.2 (by omega)
  exact ⟨a, e, hc i hi⟩
theorem BAt.drewN {W : World} {ao : Option Addr} {n : Nat} {xs : List Int} (h : BAt W ao n xs) (m : Nat) : BAt (W.drewN m) ao n xs := h
set_option maxRecDepth 100000 in
/-- A row of bytes that is owned, behind a store of one of them. -/
theorem owns_set {w : World} {base g n cap : Nat} {xs : List Int} (h : w.ownsRow base 5 1 (.slice (some ⟨g, 0, none⟩) n cap) n (By xs)) (i : Nat) (y : Int) :
    (w.setCell ⟨g, i, none⟩ (.int .u8 y)).ownsRow base 5 1 (.slice (some ⟨g, 0, none⟩) n cap) n (By (xs.set i y)) := by
  obtain ⟨h1, h2⟩ := h
  refine ⟨by rw [By_length, List.length_set, ← By_length]; exact h1, ?_⟩
  rcases h2 with h2 | ⟨g', cap', cur, hv, hg, hh, hnc, hm, hsz, ht⟩
  · cases h2.1
  · cases hv
    refine .inr ⟨g, cap, cur.setIfInBounds i (.int .u8 y), rfl, hg, blk_set hh, hnc, hm, by simpa using hsz, ?_⟩
    rw [Array.toList_setIfInBounds, List.take_set, ht]
    simp [By]
set_option maxRecDepth 100000 in
theorem owns_cell {w : World} {base g n cap : Nat} {xs : List Int} (h : w.ownsRow base 5 1 (.slice (some ⟨g, 0, none⟩) n cap) n (By xs)) (i : Nat) (hi : i < n) :
    w.cell? ⟨g, i, none⟩ = some (.int .u8 (xs.getD i 0)) ∧ w.frozen? ⟨g, i, none⟩ = false ∧ base ≤ g := by
  obtain ⟨g', cap', e, hg, _, _, _, hc⟩ := owns_bytes h (by simp)
  cases e
  refine ⟨?_, ?_, hg⟩
  · have := hc i hi
    rwa [add_at, Nat.zero_add] at this
  · rcases h.2 with h2 | ⟨g', cap', cur, hv, _, hh, _⟩
    · cases h2.1
    · cases hv
      exact blk_free hh i
set_option maxRecDepth 100000 in
theorem append_nil_below (W : World) (ao : Option Addr) (n c : Nat) (xs : List Int) (h : BAt W ao n xs) (hbig : n ≤ 140737488355328) (hnone : ao = none → n = 0 ∧ c = 0) :
    ∃ v' W', (Builtin.append_ #[28, 28] 28 #[.slice none 0 0, .slice ao n c]).run Tryz.prog W = .ok v' W' ∧ W'.ownsRow W.heap.size 5 1 v' n (By xs) ∧ Below W.heap.size W W' := by
  obtain ⟨v', W', h1, h2, h3⟩ := append_nil_run W ao n c xs h hbig hnone
  exact ⟨v', W', h1, h2, (Below.refl _ W).grown h3 (Nat.le_refl _) (by simp)⟩
def zeros (n : Nat) : List Int := List.replicate n 0
theorem zeros_length (n : Nat) : (zeros n).length = n := by simp [zeros]
theorem zeros_bound (n : Nat) : ∀ x ∈ zeros n, 0 ≤ x ∧ x ≤ 255 := by
  intro x hx
  have := List.eq_of_mem_replicate hx
  omega
set_option maxRecDepth 100000 in
theorem wpList_appendz_known {P : Program} {w : World} {ops : Array Oper} {rest : List Oper} {o : Oper} {a : Act} {Q : Exit → Act → World → Prop} (hgd : o.guard = none) (s x : Operand) (t u : TypeId)
    (ho : o.op = .call { callee := .builtin .append, args := #[s, x], argTypes := #[t, u] }) (v vx v' : Value) (w' : World) (hs : a.eval s = v) (hx : a.eval x = vx)
    (hrun : (Builtin.append_ #[t, u] o.type #[v, vx]).run P w = .ok v' w') (h : wpList P ops Q rest (a.put o.dst v') w') : wpList P ops Q (o :: rest) a w := by
  refine wpList_plain hgd fun K hK => ?_
  unfold Oper.wp execOp
  simp only [ho, resolve, invoke, builtin, Sem.run_bind, Sem.run_pure, Result.andThen_ok, List.map_toArray, List.map_cons, List.map_nil, hs, hx, hrun]
  exact hK _ _ h
set_option maxRecDepth 100000 in
theorem exec_convert {P : Program} {ev : Operand → Value} {oi : Oper} {t u : TypeId} {x : Operand} {v v' : Value} {w w' : World} (ho : oi.op = .convert t u x) (hx : ev x = v) (h : (convert t u v).run P w = .ok v' w') : (execOp ev oi).run P w = .ok (.value v') w' := by
  unfold execOp
  rw [ho]
  simp only [Sem.run_bind, hx, h, Result.andThen_ok]
  rfl
set_option maxRecDepth 100000 in
/-- make([]byte, n). -/
theorem make_run (w : World) (n : Nat) (hn : n ≤ 16777216) : (Instr.makeSlice 28 (.int .i64 n) (.int .i64 n)).run Tryz.prog w = .ok (.slice (some ⟨w.heap.size, 0, none⟩) n n) (w.alloc (.cells (By (zeros n)).toArray 5)) := by
  obtain ⟨i0, hi, hz0, hz1, hz2⟩ := info5p
  rw [run_makeSlice (P := Tryz.prog) w 28 5 i0 (.int .u8 0) Tryz.underlying28 hi hz0 .i64 .i64 n n (by omega) (by omega) (by rw [hz1]; simp; omega) (by rw [hz2]; omega) (by omega)]
  have e : madeCells (Value.int .u8 0).cells ((n : Int).toNat * i0.size) = (By (zeros n)).toArray := by
    rw [hz1]
    apply Array.ext'
    rw [show (By (zeros n)).toArray.toList = List.replicate n (Value.int .u8 0) by simp [By, zeros], List.eq_replicate_iff]
    simp [madeCells, Value.cells, Nat.mod_one]
  rw [e]
  simp
set_option maxRecDepth 100000 in
theorem wpList_make_known {P : Program} {w : World} {ops : Array Oper} {rest : List Oper} {o : Oper} {a : Act} {Q : Exit → Act → World → Prop} (hgd : o.guard = none) (l c : Operand) (t : TypeId)
    (ho : o.op = .makeSlice t l c) (vl vc v' : Value) (w' : World) (hl : a.eval l = vl) (hc : a.eval c = vc)
    (hrun : (Instr.makeSlice t vl vc).run P w = .ok v' w') (h : wpList P ops Q rest (a.put o.dst v') w') : wpList P ops Q (o :: rest) a w := by
  refine wpList_plain hgd fun K hK => ?_
  unfold Oper.wp execOp
  simp only [ho, Sem.run_bind, Sem.run_pure, Result.andThen_ok, hl, hc, hrun]
  exact hK _ _ h
set_option maxRecDepth 100000 in
theorem wpList_copy_known {P : Program} {w : World} {ops : Array Oper} {rest : List Oper} {o : Oper} {a : Act} {Q : Exit → Act → World → Prop} (hgd : o.guard = none) (d s : Operand) (dT sT : TypeId)
    (ho : o.op = .call { callee := .builtin .copy, args := #[d, s], argTypes := #[dT, sT] }) (v vx v' : Value) (w' : World) (hs : a.eval d = v) (hx : a.eval s = vx)
    (hrun : (Builtin.copy_ #[dT, sT] o.type #[v, vx]).run P w = .ok v' w') (h : wpList P ops Q rest (a.put o.dst v') w') : wpList P ops Q (o :: rest) a w := by
  refine wpList_plain hgd fun K hK => ?_
  unfold Oper.wp execOp
  simp only [ho, resolve, invoke, builtin, Sem.run_bind, Sem.run_pure, Result.andThen_ok, List.map_toArray, List.map_cons, List.map_nil, hs, hx, hrun]
  exact hK _ _ h
/-- Block g is a row of these bytes. -/
def RAt (W : World) (g : Nat) (xs : List Int) : Prop := W.heap[g]? = some (.cells (By xs).toArray 5 (0, 0))
theorem RAt.lt {W : World} {g : Nat} {xs : List Int} (h : RAt W g xs) : g < W.heap.size := lt_of_block h
theorem RAt.bat {W : World} {g : Nat} {xs : List Int} (h : RAt W g xs) (o n : Nat) (hn : o + n ≤ xs.length) : BAt W (some ⟨g, o, none⟩) n ((xs.drop o).take n) := by
  refine ⟨by simp; omega, fun _ => ⟨_, rfl, h.lt, fun i hi => ?_⟩⟩
  rw [bytes_at h o i (by omega)]
  simp [List.getD, hi]
theorem RAt.below {W W' : World} {g B : Nat} {xs : List Int} (h : RAt W g xs) (hb : Below B W W') (hg : g < B) : RAt W' g xs := by
  unfold RAt
  rw [hb.block g hg]
  exact h
set_option maxRecDepth 100000 in
theorem splice_zero (n : Nat) (ys zs : List Int) (k : Nat) (hk : ys.length = k) (hn : k + zs.length ≤ n) : splice (ys ++ zeros (n - k)) k zs = (ys ++ zs) ++ zeros (n - (k + zs.length)) := by
  subst hk
  have e : (zeros (n - ys.length)).drop zs.length = zeros (n - (ys.length + zs.length)) := by
    simp [zeros]; omega
  unfold splice
  rw [List.take_left, List.drop_append, List.drop_of_length_le (by omega)]
  simp [e]
set_option maxRecDepth 100000 in
theorem str_inj (xs ys : List Int) (hx : ∀ x ∈ xs, 0 ≤ x ∧ x ≤ 255) (hy : ∀ x ∈ ys, 0 ≤ x ∧ x ≤ 255) (h : strOfNums xs = strOfNums ys) : xs = ys := by
  have h1 : xs.map (fun n => UInt8.ofNat n.toNat) = ys.map (fun n => UInt8.ofNat n.toNat) := by
    have := congrArg (fun s : ByteArray => s.data.toList) h
    simpa [strOfNums] using this
  have inj : ∀ zs : List Int, (∀ x ∈ zs, 0 ≤ x ∧ x ≤ 255) → (zs.map (fun n => UInt8.ofNat n.toNat)).map (fun u => (u.toNat : Int)) = zs := by
    intro zs hz
    rw [List.map_map]
    conv => rhs; rw [← List.map_id zs]
    apply List.map_congr_left
    intro x hx
    have := hz x hx
    simp
    omega
  rw [← inj xs hx, ← inj ys hy, h1]
/-- Are two rows of bytes equal? -/
def eqB (xs ys : List Int) : Bool := decide (xs = ys)
set_option maxRecDepth 100000 in
theorem str_eqB (xs ys : List Int) (hx : ∀ x ∈ xs, 0 ≤ x ∧ x ≤ 255) (hy : ∀ x ∈ ys, 0 ≤ x ∧ x ≤ 255) : ((strOfNums xs).toList == (strOfNums ys).toList) = eqB xs ys := by
  rw [ByteArray.toList_eq, ByteArray.toList_eq]
  unfold eqB
  by_cases h : xs = ys
  · subst h
    simp
  · rw [decide_eq_false h]
    simp only [beq_eq_false_iff_ne, ne_eq]
    intro e
    refine h (str_inj xs ys hx hy ?_)
    unfold strOfNums at e ⊢
    simp at e
    rw [e]
set_option maxRecDepth 100000 in
theorem BAt.slice {W : World} {a : Addr} {n : Nat} {xs : List Int} (h : BAt W (some a) n xs) (o : Nat) (ho : 0 < o) (hn : o ≤ n) : BAt W (some ⟨a.block, a.off + o, none⟩) (n - o) (xs.drop o) := by
  refine ⟨by simp [h.1], fun hp => ?_⟩
  obtain ⟨a', e, hlt, hc⟩ := h.2 (by omega)
  cases e
  refine ⟨_, rfl, hlt, fun i hi => ?_⟩
  have h2 := hc (o + i) (by omega)
  rw [show a.add (o + i) = (⟨a.block, a.off + o, none⟩ : Addr).add i from by
    rw [add_at]; unfold Addr.add; rw [if_neg (by omega), Nat.add_assoc]] at h2
  rw [h2]
  simp [List.getD]
theorem drop_bound (xs : List Int) (h : ∀ x ∈ xs, 0 ≤ x ∧ x ≤ 255) (o : Nat) : ∀ x ∈ xs.drop o, 0 ≤ x ∧ x ≤ 255 := fun x hx => h x (List.mem_of_mem_drop hx)
theorem take_bound (xs : List Int) (h : ∀ x ∈ xs, 0 ≤ x ∧ x ≤ 255) (o : Nat) : ∀ x ∈ xs.take o, 0 ≤ x ∧ x ≤ 255 := fun x hx => h x (List.mem_of_mem_take hx)
section
variable {P : Program} {ops : Array Oper} {Q : Exit → Act → World → Prop} {md : Region.Mode} {S : World → Prop} {fuel : Nat} {listed : Array Bool} {t : Array Value} {w : World}
set_option maxRecDepth 100000 in
/-- Two operations may come up. -/
theorem stepH_two (i j : Nat) (hr : Region.ready md ops listed = [i, j])
    (h1 : wpOp P ops Q i (fun a' w' => S w' ∧ wpAnyH P md ops Q S fuel (listed.setIfInBounds i true) a' w') { tmps := t, defers := [] } w)
    (h2 : wpOp P ops Q j (fun a' w' => S w' ∧ wpAnyH P md ops Q S fuel (listed.setIfInBounds j true) a' w') { tmps := t, defers := [] } w) : wpAnyH P md ops Q S (fuel + 1) listed { tmps := t, defers := [] } w := by
  refine wpAnyH_all hr (by simp) (fun k hk => ?_)
  rcases List.mem_cons.1 hk with rfl | hk
  · exact h1
  · obtain rfl : k = j := by simpa using hk
    exact h2
set_option maxRecDepth 100000 in
theorem stepH_one (i : Nat) (hr : Region.ready md ops listed = [i])
    (h1 : wpOp P ops Q i (fun a' w' => S w' ∧ wpAnyH P md ops Q S fuel (listed.setIfInBounds i true) a' w') { tmps := t, defers := [] } w) : wpAnyH P md ops Q S (fuel + 1) listed { tmps := t, defers := [] } w := by
  refine wpAnyH_all hr (by simp) (fun k hk => ?_)
  obtain rfl : k = i := by simpa using hk
  exact h1
set_option maxRecDepth 100000 in
theorem opH_run (i d : Nat) (v : Value) (w' : World) {oi : Oper} (hi : ops[i]? = some oi) (hd : oi.dst = some d) (hw : Region.wanted oi (yielded ops t) = true)
    (hrun : (execOp (Act.eval { tmps := t, defers := [] }) oi).run P w = .ok (.value v) w') (hS : S w')
    (h : wpAnyH P md ops Q S fuel (listed.setIfInBounds i true) { tmps := t.setIfInBounds d v, defers := [] } w') : wpOp P ops Q i (fun a' w' => S w' ∧ wpAnyH P md ops Q S fuel (listed.setIfInBounds i true) a' w') { tmps := t, defers := [] } w := by
  unfold wpOp
  rw [hi]
  dsimp only
  rw [if_pos hw]
  left
  unfold Oper.wp
  rw [hrun, Oper.upon_value, show (Act.put { tmps := t, defers := [] } oi.dst v) = { tmps := t.setIfInBounds d v, defers := [] } from by simp [Act.put, hd]]
  exact ⟨hS, h⟩
set_option maxRecDepth 100000 in
/-- An operation that leaves nothing in a slot: a store. -/
theorem opH_store (i : Nat) (w' : World) {oi : Oper} (hi : ops[i]? = some oi) (hd : oi.dst = none) (hw : Region.wanted oi (yielded ops t) = true)
    (hrun : (execOp (Act.eval { tmps := t, defers := [] }) oi).run P w = .ok .skip w') (hS : S w')
    (h : wpAnyH P md ops Q S fuel (listed.setIfInBounds i true) { tmps := t, defers := [] } w') : wpOp P ops Q i (fun a' w' => S w' ∧ wpAnyH P md ops Q S fuel (listed.setIfInBounds i true) a' w') { tmps := t, defers := [] } w := by
  unfold wpOp
  rw [hi]
  dsimp only
  rw [if_pos hw]
  left
  unfold Oper.wp
  rw [hrun, Oper.upon_skip, show (Act.put { tmps := t, defers := [] } oi.dst undef) = { tmps := t, defers := [] } from by simp [Act.put, hd]]
  exact ⟨hS, h⟩
set_option maxRecDepth 100000 in
theorem opH_call (i d : Nat) {oi : Oper} (hi : ops[i]? = some oi) (hd : oi.dst = some d) (hw : Region.wanted oi (yielded ops t) = true)
    (f : Nat) (xs : Array Operand) (tys : Array TypeId) (hop : oi.op = Op.call { callee := .value (.func f), args := xs, argTypes := tys })
    (eg : ∀ vs w, (callFunc f vs).run P w = .ok (.enter f vs) w) (vs : Array Value) (hvs : xs.map (Act.eval { tmps := t, defers := [] }) = vs)
    {R : Ending → World → Prop} (hc : Calls P f vs w R)
    (h : ∀ e w', R e w' → ∃ u, e = .returned u ∧ S w' ∧ wpAnyH P md ops Q S fuel (listed.setIfInBounds i true) { tmps := t.setIfInBounds d u, defers := [] } w') : wpOp P ops Q i (fun a' w' => S w' ∧ wpAnyH P md ops Q S fuel (listed.setIfInBounds i true) a' w') { tmps := t, defers := [] } w := by
  unfold wpOp
  rw [hi]
  dsimp only
  rw [if_pos hw]
  left
  have hrun : (execOp (Act.eval { tmps := t, defers := [] }) oi).run P w = .ok (.enter f vs) w := by
    subst hvs
    simp [execOp, hop, resolve, invoke, Act.eval, go_sem, eg]
  unfold Oper.wp
  rw [hrun, Oper.upon_enter]
  refine hc.mono ?_
  intro e w' hr
  obtain ⟨u, rfl, h1, h2⟩ := h e w' hr
  show S w' ∧ wpAnyH P md ops Q S fuel (listed.setIfInBounds i true) (Act.put { tmps := t, defers := [] } oi.dst u) w'
  rw [show (Act.put { tmps := t, defers := [] } oi.dst u) = { tmps := t.setIfInBounds d u, defers := [] } from by simp [Act.put, hd]]
  exact ⟨h1, h2⟩
end
set_option maxRecDepth 100000 in
theorem exec_store {P : Program} {ev : Operand → Value} {oi : Oper} {t : TypeId} {p x : Operand} {v u : Value} {w w' : World} (ho : oi.op = .store t p x) (hp : ev p = v) (hx : ev x = u) (h : (Instr.storeAt t v u).run P w = .ok () w') : (execOp ev oi).run P w = .ok .skip w' := by
  unfold execOp
  rw [ho]
  simp only [Sem.run_bind, hp, hx, h, Result.andThen_ok]
  rfl
theorem RAt.full {W : World} {g n : Nat} {xs : List Int} (h : RAt W g xs) (hl : xs.length = n) : BAt W (some ⟨g, 0, none⟩) n xs := by
  have h := h.bat 0 n (by omega)
  rwa [List.drop_zero, List.take_of_length_le (by omega)] at h
theorem mul_fits {a b A B : Int} (h0 : 0 ≤ a) (h1 : a ≤ A) (h2 : 0 ≤ b) (h3 : b ≤ B) : 0 ≤ a * b ∧ a * b ≤ A * B :=
  ⟨Int.mul_nonneg h0 h2, Int.le_trans (Int.mul_le_mul_of_nonneg_right h1 h2) (Int.mul_le_mul_of_nonneg_left h3 (by omega))⟩
end Go.Proofs.YtehaoeclnmelhacGreat
namespace Go.Proofs.YtehaoeclnmelhacGreat
open Go Go.Proofs Go.RowKit Go.Shelf
theorem take_snoc (xs : List Int) (k : Nat) (h : k < xs.length) : xs.take (k + 1) = xs.take k ++ [xs.getD k 0] := by
  rw [List.take_succ_eq_append_getElem h]
  simp [List.getD, List.getElem?_eq_getElem h]
/-- A number in so many bytes, the lowest first. -/
def leL (n : Int) (k : Nat) : List Int := (List.range k).map (fun i => n / 256 ^ i % 256)
theorem leL_length (n : Int) (k : Nat) : (leL n k).length = k := by simp [leL]
theorem leL_succ (n : Int) (k : Nat) : leL n (k + 1) = leL n k ++ [n / 256 ^ k % 256] := by simp [leL, List.range_succ]
theorem leL_bound (n : Int) (k : Nat) : ∀ x ∈ leL n k, 0 ≤ x ∧ x ≤ 255 := by
  intro x hx
  obtain ⟨i, _, rfl⟩ := List.mem_map.1 hx
  omega
theorem splice_length {α : Type} (cur : List α) (o : Nat) (ys : List α) (h : o + ys.length ≤ cur.length) : (splice cur o ys).length = cur.length := by
  simp [splice]; omega
set_option maxRecDepth 100000 in
theorem splice_snoc (cur : List Int) (o : Nat) (ys : List Int) (y : Int) (h : o + ys.length < cur.length) : (splice cur o ys).set (o + ys.length) y = splice cur o (ys ++ [y]) := by
  unfold splice
  have h1 : (List.take o cur).length = o := by simp; omega
  rw [List.set_append_right _ _ (by simp; omega), h1, Nat.add_sub_cancel_left, List.set_append_right _ _ (by omega), Nat.sub_self, List.drop_eq_getElem_cons h]
  simp [Nat.add_assoc]
theorem By_setArr (xs : List Int) (i : Nat) (y : Int) : (By xs).toArray.setIfInBounds i (.int .u8 y) = (By (xs.set i y)).toArray := by
  simp [By]
/-- The number of bytes, the lowest first. -/
def numL : List Int → Int
  | [] => 0
  | x :: r => x + 256 * numL r
set_option maxRecDepth 100000 in
theorem numL_snoc (xs : List Int) (x : Int) : numL (xs ++ [x]) = numL xs + 256 ^ xs.length * x := by
  induction xs with
  | nil => simp [numL]
  | cons y r ih =>
    simp only [List.cons_append, numL, ih, List.length_cons, Int.pow_succ]
    rw [Int.mul_add, Int.mul_comm (256 ^ r.length) 256, Int.mul_assoc, Int.add_assoc]
set_option maxRecDepth 100000 in
theorem numL_bound (xs : List Int) (h : ∀ x ∈ xs, 0 ≤ x ∧ x ≤ 255) : 0 ≤ numL xs ∧ numL xs < 256 ^ xs.length := by
  induction xs with
  | nil => simp [numL]
  | cons x r ih =>
    have h1 := h x (by simp)
    have h2 := ih (fun y hy => h y (by simp [hy]))
    simp only [numL, List.length_cons, Int.pow_succ]
    omega
theorem numL_drop (ys : List Int) (j : Nat) (h : j < ys.length) : numL (ys.drop j) = ys.getD j 0 + 256 * numL (ys.drop (j + 1)) := by
  rw [List.drop_eq_getElem_cons h]
  simp [numL, List.getD, List.getElem?_eq_getElem h]
theorem pow_small (k : Nat) (h : k ≤ 3) : (256 : Int) ^ k ≤ 16777216 := by
  match k, h with
  | 0, _ => decide
  | 1, _ => decide
  | 2, _ => decide
  | 3, _ => decide
set_option maxRecDepth 100000 in
theorem join32 (y x : Int) (k : Nat) (hk : k < 4) (hy : 0 ≤ y ∧ y < 256 ^ k) (hx : 0 ≤ x ∧ x ≤ 255) : bits BinOp.or IntKind.u32 y (x * 2 ^ (8 * k) % 4294967296) = y + 256 ^ k * x := by
  have e : (2 : Int) ^ (8 * k) = 256 ^ k := by rw [Int.pow_mul]; rfl
  have hp := pow_small k (by omega)
  have hp0 : (0 : Int) ≤ 256 ^ k := Int.pow_nonneg (by decide)
  have hm : 0 ≤ x * 256 ^ k ∧ x * 256 ^ k ≤ 255 * 16777216 := mul_fits hx.1 hx.2 hp0 hp
  rw [e, Int.emod_eq_of_lt hm.1 (by omega)]
  obtain ⟨X, rfl⟩ := Int.eq_ofNat_of_zero_le hx.1
  obtain ⟨Y, rfl⟩ := Int.eq_ofNat_of_zero_le hy.1
  have e2 : (X : Int) * 256 ^ k = ((X * 2 ^ (8 * k) : Nat) : Int) := by rw [← e]; simp
  have hY : Y < 2 ^ (8 * k) := by
    have := hy.2
    rw [← e] at this
    exact_mod_cast this
  have hYb : (Y : Int) < 4294967296 := by omega
  have hZb : ((X * 2 ^ (8 * k) : Nat) : Int) < 4294967296 := by rw [← e2]; omega
  rw [Int.mul_comm (256 ^ k), e2, u32_or_nat _ _ (by omega) (by omega), Nat.or_comm, nat_join (8 * k) _ _ (Nat.mul_mod_left _ _) hY]
  omega
set_option maxRecDepth 100000 in
theorem join64 (y x : Int) (hy : 0 ≤ y) (hy2 : y < 16777216) (hx : 0 ≤ x ∧ x ≤ 255) : bits BinOp.or IntKind.i64 (y * 256) x = x + 256 * y := by
  obtain ⟨X, rfl⟩ := Int.eq_ofNat_of_zero_le hx.1
  obtain ⟨Y, rfl⟩ := Int.eq_ofNat_of_zero_le hy
  rw [show (Y : Int) * 256 = ((Y * 256 : Nat) : Int) by simp]
  show IntKind.i64.wrap ((BitVec.ofInt 64 ((Y * 256 : Nat) : Int) ||| BitVec.ofInt 64 (X : Int)).toNat : Int) = _
  rw [BitVec.toNat_or, ofInt_u64 _ (by omega), ofInt_u64 X (by omega), nat_join 8 _ _ (by omega) (by omega), IntKind.wrap_i64]
  omega
set_option maxRecDepth 100000 in
/-- x & 255. -/
theorem low64 (x : Int) (h0 : 0 ≤ x) (h1 : x < 4294967296) : bits BinOp.and IntKind.i64 x 255 = x % 256 := by
  obtain ⟨X, rfl⟩ := Int.eq_ofNat_of_zero_le h0
  show IntKind.i64.wrap ((BitVec.ofInt 64 (X : Int) &&& BitVec.ofInt 64 ((255 : Nat) : Int)).toNat : Int) = _
  rw [BitVec.toNat_and, ofInt_u64 X (by omega), ofInt_u64 255 (by omega), nat_mask8, IntKind.wrap_i64]
  omega
theorem pow_tiny (k : Nat) (h : k ≤ 1) : (256 : Int) ^ k ≤ 256 := by
  match k, h with
  | 0, _ => decide
  | 1, _ => decide
set_option maxRecDepth 100000 in
theorem join16 (y x : Int) (k : Nat) (hk : k < 2) (hy : 0 ≤ y ∧ y < 256 ^ k) (hx : 0 ≤ x ∧ x ≤ 255) : bits BinOp.or IntKind.u16 y (x * 2 ^ (8 * k) % 65536) = y + 256 ^ k * x := by
  have e : (2 : Int) ^ (8 * k) = 256 ^ k := by rw [Int.pow_mul]; rfl
  have hp := pow_tiny k (by omega)
  have hp0 : (0 : Int) ≤ 256 ^ k := Int.pow_nonneg (by decide)
  have hm : 0 ≤ x * 256 ^ k ∧ x * 256 ^ k ≤ 255 * 256 := mul_fits hx.1 hx.2 hp0 hp
  rw [e, Int.emod_eq_of_lt hm.1 (by omega)]
  obtain ⟨X, rfl⟩ := Int.eq_ofNat_of_zero_le hx.1
  obtain ⟨Y, rfl⟩ := Int.eq_ofNat_of_zero_le hy.1
  have e2 : (X : Int) * 256 ^ k = ((X * 2 ^ (8 * k) : Nat) : Int) := by rw [← e]; simp
  have hY : Y < 2 ^ (8 * k) := by
    have := hy.2
    rw [← e] at this
    exact_mod_cast this
  have hYb : (Y : Int) < 65536 := by omega
  have hZb : ((X * 2 ^ (8 * k) : Nat) : Int) < 65536 := by rw [← e2]; omega
  rw [Int.mul_comm (256 ^ k), e2, u16_or_nat _ _ (by omega) (by omega), Nat.or_comm, nat_join (8 * k) _ _ (Nat.mul_mod_left _ _) hY]
  omega
/-- Is a number from 0 to m? -/
def fitB (m x : Int) : Bool := decide (0 ≤ x ∧ x ≤ m)
theorem fitB_iff {m x : Int} : fitB m x = true ↔ 0 ≤ x ∧ x ≤ m := by simp [fitB]
theorem fitB_no {m x : Int} : fitB m x = false ↔ x < 0 ∨ m < x := by simp [fitB]; omega
end Go.Proofs.YtehaoeclnmelhacGreat
namespace Go.Proofs.YtehaoeclnmelhacGreat
open Go Go.Proofs Go.RowKit Go.Shelf
set_option maxRecDepth 100000 in
/-- append(b, make([]byte, m)...). -/
theorem append_zeros_run (w : World) (base : Nat) (v : Value) (n m : Nat) (xs : List Int) (hown : w.ownsRow base 5 1 v n (By xs)) (hbase : base ≤ w.heap.size) (hv : v ≠ .slice none 0 0) (hm : 0 < m) (hbig : n + m ≤ 16777216) :
    ∃ v' w', (Builtin.append_ #[28, 3] 28 #[v, .int .i64 m]).run Tryz.prog w = .ok v' w' ∧ w'.ownsRow base 5 1 v' (n + m) (By (xs ++ List.replicate m 0)) ∧ w.grownBy w' v.ownBlock := by
  obtain ⟨i0, hi, hz0, hz1, hz2⟩ := info5p
  have hlx : xs.length = n := by have := hown.1; rw [By_length] at this; omega
  have hzc : ∀ k, Builtin.zeroCells (Value.int .u8 0).cells k = (By (List.replicate k 0)).toArray := by
    intro k
    apply Array.ext'
    rw [show (By (List.replicate k 0)).toArray.toList = List.replicate k (Value.int .u8 0) by simp [By], List.eq_replicate_iff]
    simp [Builtin.zeroCells, Value.cells, Nat.mod_one]
  have hw : IntKind.i64.wrap (m : Int) = m := by rw [IntKind.wrap_i64]; omega
  have hneg : ¬ ((m : Int) < 0) := by omega
  have h48 : ¬ (281474976710656 < (m : Int)) := by omega
  have hlen : (By (xs ++ List.replicate m 0)).length = n + m := by rw [By_length]; simp [hlx]
  have hbyapp : By (xs ++ List.replicate m 0) = By xs ++ By (List.replicate m 0) := by simp [By]
  have has : ∀ w, (asInt (.int .i64 (m : Int))).run Tryz.prog w = .ok (m : Int) w := by intro w; simp [asInt, asIntOf]
  have h0 : m ≠ 0 := by omega
  rcases hown.2 with ⟨rfl, rfl⟩ | ⟨g, cap, cur, rfl, hbg, hg, hnc, hcm, hcs, htake⟩
  · exact absurd rfl hv
  · by_cases hroom : n + m ≤ cap
    · have hst := run_storeCells_at Tryz.prog g n 5 (By (List.replicate m 0)) 0 cur w hg (by rw [By_length]; simp; omega) (By_one _)
      simp only [Nat.add_zero] at hst
      refine ⟨.slice (some ⟨g, 0, none⟩) (n + m) cap, w.setRow g (cur.toList.take n ++ By (List.replicate m 0) ++ cur.toList.drop (n + (By (List.replicate m 0)).length)).toArray, ?_, ?_, ?_⟩
      · simp [Builtin.append_, run_underlying Tryz.underlying28, run_underlying Tryz.underlying3, sizeOf, typeInfo, hi, hz1, hz2, zeroValue, hz0, has, hw, hneg, h48, hroom, hzc, Addr.add_lit, hst, h0]
      · refine ⟨by rw [hlen]; omega, .inr ⟨g, cap, _, rfl, hbg, setRow_heap w g cur _ 5 _ hg, hroom, hcm, ?_, ?_⟩⟩
        · simp only [List.size_toArray, List.length_append, List.length_take, List.length_drop, Array.length_toList, By_length, List.length_replicate]
          omega
        · rw [Nat.mul_one] at htake
          rw [htake, ← hbyapp, show (n + m) * 1 = (By (xs ++ List.replicate m 0)).length by rw [hlen]; omega]
          exact List.take_left
      · exact ⟨rfl, rfl, rfl, by simp, fun k _ hk => setRow_other w g k _ (fun e => hk (by simp [Value.ownBlock, e]))⟩
    · refine ⟨.slice (some ⟨w.heap.size, 0, none⟩) (n + m) (grownCap w (n + m) cap 5), w.drew.alloc (.cells (By xs ++ By (List.replicate m 0) ++ By (List.replicate (grownCap w (n + m) cap 5 - (n + m)) 0)).toArray 5), ?_, ?_, ?_⟩
      · have holds : ∀ j u, (By xs)[j]? = some u → w.cell? ((⟨g, 0, none⟩ : Addr).add j) = some u := hown.cells (g := g) rfl
        have hfo := run_firstCells_some (P := Tryz.prog) w.drew 1 n ⟨g, 0, none⟩ n cap (By xs) (by rw [By_length, hlx]; omega) (by simpa using holds)
        have h63' : ¬ (9223372036854775807 < ((n : Int) + (m : Int))) := by omega
        have hfit := growslice_fits (need := n + m) (old := cap) (bytes := 1) (by omega) (by omega)
        have h48' : ¬ (281474976710656 < Builtin.nextslicecap (n + m) cap) := by omega
        simp [Builtin.append_, run_underlying Tryz.underlying28, run_underlying Tryz.underlying3, sizeOf, typeInfo, hi, hz1, hz2, zeroValue, hz0, has, hw, hneg, h48, hroom, hzc, h63', h48', Question.forced, hfo, newRow, grownCap, h0]
      · have hge := grownCap_ge w (n + m) cap 5
        have hcm2 : grownCap w (n + m) cap 5 ≤ maxLen := grownCap_le_maxLen w (n + m) cap 5 (by unfold maxLen; omega)
        refine ⟨by rw [hlen]; omega, .inr ⟨w.heap.size, _, _, rfl, hbase, heap_alloc_new w.drew _, hge, hcm2, ?_, ?_⟩⟩
        · simp only [List.size_toArray, List.length_append, By_length, List.length_replicate]
          omega
        · rw [← hbyapp, show (n + m) * 1 = (By (xs ++ List.replicate m 0)).length by rw [hlen]; omega]
          exact List.take_left
      · exact ⟨rfl, rfl, rfl, by simp, fun k hk _ => Below.heap_alloc w.drew _ k hk⟩
set_option maxRecDepth 100000 in
theorem zero_cells (k : Nat) : Builtin.zeroCells (Value.int .u8 0).cells k = (By (List.replicate k 0)).toArray := by
  apply Array.ext'
  rw [show (By (List.replicate k 0)).toArray.toList = List.replicate k (Value.int .u8 0) by simp [By], List.eq_replicate_iff]
  simp [Builtin.zeroCells, Value.cells, Nat.mod_one]
set_option maxRecDepth 100000 in
/-- append(nil, make([]byte, m)...). -/
theorem append_zeros_nil (w : World) (m : Nat) (hm : 0 < m) (hbig : m ≤ 16777216) :
    ∃ v' w', (Builtin.append_ #[28, 3] 28 #[.slice none 0 0, .int .i64 m]).run Tryz.prog w = .ok v' w' ∧ w'.ownsRow w.heap.size 5 1 v' m (By (List.replicate m 0)) ∧ w.grownBy w' none := by
  obtain ⟨i0, hi, hz0, hz1, hz2⟩ := info5p
  have hzc := zero_cells
  have hw : IntKind.i64.wrap (m : Int) = m := by rw [IntKind.wrap_i64]; omega
  have hneg : ¬ ((m : Int) < 0) := by omega
  have h48 : ¬ (281474976710656 < (m : Int)) := by omega
  have has : ∀ w, (asInt (.int .i64 (m : Int))).run Tryz.prog w = .ok (m : Int) w := by intro w; simp [asInt, asIntOf]
  have h0 : m ≠ 0 := by omega
  have hroom : ¬ (m ≤ 0) := by omega
  refine ⟨.slice (some ⟨w.heap.size, 0, none⟩) m (grownCap w m 0 5), w.drew.alloc (.cells (By (List.replicate m 0) ++ By (List.replicate (grownCap w m 0 5 - m) 0)).toArray 5), ?_, ?_, ?_⟩
  · have h63' : ¬ (9223372036854775807 < (m : Int)) := by omega
    have hfit := growslice_fits (need := m) (old := 0) (bytes := 1) (by omega) (by omega)
    have h48' : ¬ (281474976710656 < Builtin.nextslicecap m 0) := by omega
    simp [Builtin.append_, run_underlying Tryz.underlying28, run_underlying Tryz.underlying3, sizeOf, typeInfo, hi, hz1, hz2, zeroValue, hz0, has, hw, hneg, h48, hzc, h63', h48', Question.forced, newRow, grownCap, h0, Builtin.firstCells]
  · have hge := grownCap_ge w m 0 5
    have hcm2 : grownCap w m 0 5 ≤ maxLen := grownCap_le_maxLen w m 0 5 (by unfold maxLen; omega)
    refine ⟨by rw [By_length]; simp, .inr ⟨w.heap.size, _, _, rfl, Nat.le_refl _, heap_alloc_new w.drew _, hge, hcm2, ?_, ?_⟩⟩
    · simp only [List.size_toArray, List.length_append, By_length, List.length_replicate]
      omega
    · rw [show m * 1 = (By (List.replicate m 0)).length by rw [By_length]; simp]
      exact List.take_left
  · exact ⟨rfl, rfl, rfl, by simp, fun k hk _ => Below.heap_alloc w.drew _ k hk⟩
set_option maxRecDepth 100000 in
theorem append_zeros_none (w : World) (base : Nat) (v : Value) (n : Nat) (xs : List Int) (hown : w.ownsRow base 5 1 v n (By xs)) :
    (Builtin.append_ #[28, 3] 28 #[v, .int .i64 0]).run Tryz.prog w = .ok v w := by
  obtain ⟨i0, hi, hz0, hz1, hz2⟩ := info5p
  have hw : IntKind.i64.wrap 0 = 0 := by decide
  have has : ∀ w, (asInt (.int .i64 0)).run Tryz.prog w = .ok 0 w := by intro w; simp [asInt, asIntOf]
  rcases hown.2 with ⟨rfl, rfl⟩ | ⟨g, cap, cur, rfl, hbg, hg, hnc, hcm, hcs, htake⟩
  · simp [Builtin.append_, run_underlying Tryz.underlying28, run_underlying Tryz.underlying3, sizeOf, typeInfo, hi, has, hw]
  · simp [Builtin.append_, run_underlying Tryz.underlying28, run_underlying Tryz.underlying3, sizeOf, typeInfo, hi, has, hw, hnc, storeCells]
set_option maxRecDepth 100000 in
theorem append_zeros_any (w : World) (base : Nat) (v : Value) (n m : Nat) (xs : List Int) (hown : w.ownsRow base 5 1 v n (By xs)) (hbase : base ≤ w.heap.size) (hbig : n + m ≤ 16777216) :
    ∃ v' w', (Builtin.append_ #[28, 3] 28 #[v, .int .i64 m]).run Tryz.prog w = .ok v' w' ∧ w'.ownsRow base 5 1 v' (n + m) (By (xs ++ List.replicate m 0)) ∧ Below base w w' := by
  rcases Nat.eq_zero_or_pos m with rfl | hm
  · exact ⟨v, w, append_zeros_none w base v n xs hown, by simpa using hown, Below.refl _ _⟩
  · rcases Nat.eq_zero_or_pos n with rfl | hn
    · obtain rfl : xs = [] := List.eq_nil_of_length_eq_zero (by have := hown.1; rw [By_length] at this; omega)
      rcases hown.2 with ⟨rfl, _⟩ | ⟨g, cap, cur, rfl, hbg, hg, hnc, hcm, hcs, htake⟩
      · obtain ⟨v', w', h1, h2, h3⟩ := append_zeros_nil w m hm (by omega)
        exact ⟨v', w', h1, by simpa using owns_base h2 hbase, (Below.refl _ w).grown h3 hbase (by simp)⟩
      · obtain ⟨v', w', h1, h2, h3⟩ := append_zeros_run w base _ 0 m [] hown hbase (by simp) hm hbig
        exact ⟨v', w', h1, h2, (Below.refl _ w).grown h3 hbase (fun k hk => (hown.lt k hk).1)⟩
    · obtain ⟨v', w', h1, h2, h3⟩ := append_zeros_run w base v n m xs hown hbase (by rintro rfl; rcases hown.2 with h2 | ⟨_, _, _, h2, _⟩; omega; cases h2) hm hbig
      exact ⟨v', w', h1, h2, (Below.refl _ w).grown h3 hbase (fun k hk => (hown.lt k hk).1)⟩
/-- A row of bytes that one may append to: an owned one, or one that has no room. -/
def Src (w : World) (B : Nat) (v : Value) (n : Nat) (xs : List Int) : Prop := w.ownsRow B 5 1 v n (By xs) ∨ ∃ a, v = .slice (some a) n n ∧ BAt w (some a) n xs
set_option maxRecDepth 100000 in
theorem append1_own (W : World) (B : Nat) (v : Value) (n : Nat) (xs : List Int) (y : Int) (hown : W.ownsRow B 5 1 v n (By xs)) (hB : B ≤ W.heap.size) (hn : n ≤ 16777216) :
    ∃ v' W', (Builtin.append_ #[28, 28] 28 #[v, .slice (some ⟨W.heap.size, 0, none⟩) 1 1]).run Tryz.prog (W.alloc (.cells #[.int .u8 y] 5)) = .ok v' W' ∧ W'.ownsRow B 5 1 v' (n + 1) (By (xs ++ [y])) ∧ Below B W W' := by
  obtain ⟨i0, hi, hz0, hz1, hz2⟩ := info5p
  have hnew := blk_new W (.cells #[.int .u8 y] 5)
  obtain ⟨v3, W3, hr, hown3, hg3, _⟩ := run_append_own (P := Tryz.prog) (W.alloc (.cells #[.int .u8 y] 5)) B 28 28 5 i0 (.int .u8 0) 1 1 Tryz.underlying28 hi hz0 hz1 hz2 rfl (by decide) v n (By xs) (hown.alloc _) ⟨W.heap.size, 0, none⟩ 1 1 [.int .u8 y] rfl (fun j u hj => by
    match j, hj with
    | 0, hj =>
      cases hj
      rw [add_at, blk_cell hnew]; rfl) (by simp [Value.oneCell']) (by unfold maxLen; omega) (by omega) (by simp; omega)
  have e : By xs ++ [.int .u8 y] = By (xs ++ [y]) := by simp [By]
  rw [e] at hown3
  refine ⟨v3, W3, hr, hown3, ?_⟩
  refine ((Below.refl _ W).alloc hB _).grown hg3 (by simp; omega) (fun k hk => ?_)
  exact (hown.lt k hk).1
set_option maxRecDepth 100000 in
theorem append1_full (W : World) (a : Addr) (n : Nat) (xs : List Int) (y : Int) (hb : BAt W (some a) n xs) (hn : n ≤ 16777216) :
    ∃ v' W', (Builtin.append_ #[28, 28] 28 #[.slice (some a) n n, .slice (some ⟨W.heap.size, 0, none⟩) 1 1]).run Tryz.prog (W.alloc (.cells #[.int .u8 y] 5)) = .ok v' W' ∧ W'.ownsRow W.heap.size 5 1 v' (n + 1) (By (xs ++ [y])) ∧ Below W.heap.size W W' := by
  obtain ⟨i0, hi, hz0, hz1, hz2⟩ := info5p
  have hnew := blk_new W (.cells #[.int .u8 y] 5)
  have hb2 : BAt (W.alloc (.cells #[.int .u8 y] 5)) (some a) n xs := hb.only (Only.of_new (fun _ => False) ((Below.refl _ W).alloc (Nat.le_refl _) _)) (fun _ _ _ h => h)
  obtain ⟨v3, W3, hr, hown3, hg3⟩ := run_append_arg_grows (P := Tryz.prog) (W.alloc (.cells #[.int .u8 y] 5)) 28 28 5 i0 (.int .u8 0) 1 1 Tryz.underlying28 hi hz0 hz1 hz2 rfl (by decide) a n n (By xs) (by rw [By_length, hb.1, Nat.mul_one]) (fun j u hj => by
      have hjl := (List.getElem?_eq_some_iff.1 hj).1
      rw [By_length] at hjl
      rw [By_get xs j hjl] at hj
      obtain ⟨a', e, hc⟩ := hb2.at j (by rw [← hb.1]; exact hjl)
      cases e
      rw [hc]
      exact hj) ⟨W.heap.size, 0, none⟩ 1 1 [.int .u8 y] rfl (fun j u hj => by
    match j, hj with
    | 0, hj =>
      cases hj
      rw [add_at, blk_cell hnew]; rfl) (by omega) (by unfold maxLen; omega) (by omega)
  have e : By xs ++ [.int .u8 y] = By (xs ++ [y]) := by simp [By]
  rw [e] at hown3
  exact ⟨v3, W3, hr, owns_base hown3 (by simp), ((Below.refl _ W).alloc (Nat.le_refl _) _).grown hg3 (by simp) (by simp)⟩
set_option maxRecDepth 100000 in
/-- append(b, y). -/
theorem append1_run (W : World) (B : Nat) (v : Value) (n : Nat) (xs : List Int) (y : Int) (hsrc : Src W B v n xs) (hB : B ≤ W.heap.size) (hn : n ≤ 16777216) :
    ∃ v' W', (Builtin.append_ #[28, 28] 28 #[v, .slice (some ⟨W.heap.size, 0, none⟩) 1 1]).run Tryz.prog (W.alloc (.cells #[.int .u8 y] 5)) = .ok v' W' ∧ W'.ownsRow B 5 1 v' (n + 1) (By (xs ++ [y])) ∧ Below B W W' := by
  rcases hsrc with h | ⟨a, rfl, h⟩
  · exact append1_own W B v n xs y h hB hn
  · obtain ⟨v', W', h1, h2, h3⟩ := append1_full W a n xs y h hn
    exact ⟨v', W', h1, owns_base h2 hB, h3.mono hB⟩
end Go.Proofs.YtehaoeclnmelhacGreat
namespace Go.Proofs.YtehaoeclnmelhacGreat
open Go Go.Proofs Go.RowKit Go.Shelf
/-- Ints as cells. -/
def Iy (xs : List Int) : List Value := xs.map (Value.int .i64)
theorem Iy_length (xs : List Int) : (Iy xs).length = xs.length := by simp [Iy]
theorem Iy_get (xs : List Int) (i : Nat) (h : i < xs.length) : (Iy xs)[i]? = some (.int .i64 (xs.getD i 0)) := by simp [Iy, List.getD, List.getElem?_eq_getElem h]
theorem Iy_one (xs : List Int) : ∀ u ∈ Iy xs, u.oneCell' = true := by
  intro u hu
  obtain ⟨x, _, rfl⟩ := List.mem_map.1 hu
  rfl
theorem Iy_setArr (xs : List Int) (i : Nat) (y : Int) : (Iy xs).toArray.setIfInBounds i (.int .i64 y) = (Iy (xs.set i y)).toArray := by
  simp [Iy]
/-- A slice of ints as it lies in a world. -/
def LAt (W : World) (ao : Option Addr) (n : Nat) (xs : List Int) : Prop :=
  xs.length = n ∧ (0 < n → ∃ a, ao = some a ∧ a.block < W.heap.size ∧ ∀ i, i < n → W.cell? (a.add i) = some (.int .i64 (xs.getD i 0)))
set_option maxRecDepth 100000 in
theorem LAt.only {S : Nat → Prop} {W W' : World} {ao : Option Addr} {n : Nat} {xs : List Int} (h : LAt W ao n xs) (ho : Only S W W') (hS : ∀ a, ao = some a → a.block < W.heap.size → ¬ S a.block) : LAt W' ao n xs := by
  refine ⟨h.1, fun hn => ?_⟩
  obtain ⟨a, e, hlt, hc⟩ := h.2 hn
  refine ⟨a, e, Nat.lt_of_lt_of_le hlt ho.size, fun i hi => ?_⟩
  rw [World.cell?_of_block (w := W) (by rw [add_block]; exact ho.block _ hlt (hS a e hlt))]
  exact hc i hi
theorem LAt.at {W : World} {ao : Option Addr} {n : Nat} {xs : List Int} (h : LAt W ao n xs) (i : Nat) (hi : i < n) : ∃ a, ao = some a ∧ W.cell? (a.add i) = some (.int .i64 (xs.getD i 0)) := by
  obtain ⟨a, e, _, hc⟩ := h.2 (by omega)
  exact ⟨a, e, hc i hi⟩
theorem getD_mem {xs : List Int} {i : Nat} (h : i < xs.length) : xs.getD i 0 ∈ xs := by
  simp [List.getD, List.getElem?_eq_getElem h]
/-- Numbers in so many bytes each. -/
def leLs (K : Nat) (xs : List Int) : List Int := xs.flatMap (fun x => leL x K)
theorem leLs_snoc (K : Nat) (xs : List Int) (x : Int) : leLs K (xs ++ [x]) = leLs K xs ++ leL x K := by simp [leLs]
set_option maxRecDepth 100000 in
theorem leLs_length (K : Nat) (xs : List Int) : (leLs K xs).length = K * xs.length := by
  induction xs with
  | nil => simp [leLs]
  | cons x r ih =>
    have e : leLs K (x :: r) = leL x K ++ leLs K r := by simp [leLs]
    rw [e, List.length_append, ih, leL_length, List.length_cons, Nat.mul_succ, Nat.add_comm]
theorem leLs_bound (K : Nat) (xs : List Int) : ∀ x ∈ leLs K xs, 0 ≤ x ∧ x ≤ 255 := by
  intro x hx
  obtain ⟨y, _, h⟩ := List.mem_flatMap.1 hx
  exact leL_bound _ _ x h
/-- Are all of them from 0 to m? -/
def fitL (m : Int) (xs : List Int) : Bool := xs.all (fitB m)
theorem fitL_iff {m : Int} {xs : List Int} : fitL m xs = true ↔ ∀ x ∈ xs, 0 ≤ x ∧ x ≤ m := by
  simp [fitL, fitB]
theorem fitL_no {m : Int} {xs : List Int} {k : Nat} (hk : k < xs.length) (h : fitB m (xs.getD k 0) = false) : fitL m xs = false := by
  cases hh : fitL m xs with
  | false => rfl
  | true =>
    have := fitL_iff.1 hh _ (getD_mem hk)
    rw [fitB_iff.2 this] at h
    cases h
set_option maxRecDepth 100000 in
theorem fitL_all {m : Int} {xs : List Int} (h : ∀ k, k < xs.length → fitB m (xs.getD k 0) = true) : fitL m xs = true := by
  refine fitL_iff.2 (fun x hx => ?_)
  obtain ⟨i, hi, rfl⟩ := List.getElem_of_mem hx
  have := h i hi
  rw [show xs.getD i 0 = xs[i] by simp [List.getD, List.getElem?_eq_getElem hi]] at this
  exact fitB_iff.1 this
end Go.Proofs.YtehaoeclnmelhacGreat
namespace Go.Proofs.YtehaoeclnmelhacGreat
open Go Go.Proofs Go.RowKit Go.Shelf
theorem info3 : (Tryz.prog.info? 3).map (fun i => (i.zero, i.size, i.bytes)) = some (some (.int .i64 0), 1, 8) := by kernel_rfl
theorem info3p : ∃ i0, Tryz.prog.info? 3 = some i0 ∧ i0.zero = some (.int .i64 0) ∧ i0.size = 1 ∧ i0.bytes = 8 := by
  obtain ⟨i0, hi, hz0, hz1, hz2⟩ := info_parts info3
  exact ⟨i0, hi, hz0, hz1, hz2⟩
set_option maxRecDepth 100000 in
/-- make([]int, n). -/
theorem makei_run (w : World) (n : Nat) (hn : n ≤ 16777216) : (Instr.makeSlice 40 (.int .i64 n) (.int .i64 n)).run Tryz.prog w = .ok (.slice (some ⟨w.heap.size, 0, none⟩) n n) (w.alloc (.cells (Iy (zeros n)).toArray 3)) := by
  obtain ⟨i0, hi, hz0, hz1, hz2⟩ := info3p
  rw [run_makeSlice (P := Tryz.prog) w 40 3 i0 (.int .i64 0) Tryz.underlying40 hi hz0 .i64 .i64 n n (by omega) (by omega) (by rw [hz1]; simp; omega) (by rw [hz2]; omega) (by omega)]
  have e : madeCells (Value.int .i64 0).cells ((n : Int).toNat * i0.size) = (Iy (zeros n)).toArray := by
    rw [hz1]
    apply Array.ext'
    rw [show (Iy (zeros n)).toArray.toList = List.replicate n (Value.int .i64 0) by simp [Iy, zeros], List.eq_replicate_iff]
    simp [madeCells, Value.cells, Nat.mod_one]
  rw [e]
  simp
/-- Block g is a row of these ints. -/
def QAt (W : World) (g : Nat) (xs : List Int) : Prop := W.heap[g]? = some (.cells (Iy xs).toArray 3 (0, 0))
theorem QAt.lt {W : World} {g : Nat} {xs : List Int} (h : QAt W g xs) : g < W.heap.size := lt_of_block h
theorem QAt.below {W W' : World} {g B : Nat} {xs : List Int} (h : QAt W g xs) (hb : Below B W W') (hg : g < B) : QAt W' g xs := by
  unfold QAt
  rw [hb.block g hg]
  exact h
theorem QAt.lat {W : World} {g n : Nat} {xs : List Int} (h : QAt W g xs) (hn : xs.length = n) : LAt W (some ⟨g, 0, none⟩) n xs := by
  refine ⟨hn, fun _ => ⟨_, rfl, h.lt, fun i hi => ?_⟩⟩
  rw [add_at, blk_cell h, Nat.zero_add]
  simpa using Iy_get xs i (by omega)
theorem add_off (a : Addr) (o : Nat) : (a.add o).off = a.off + o := by
  unfold Addr.add
  split
  · next h => subst h; rfl
  · rfl
set_option maxRecDepth 100000 in
theorem add_add (a : Addr) (o i : Nat) : (a.add o).add i = a.add (o + i) := by
  by_cases hi : i = 0
  · subst hi; unfold Addr.add; simp
  · have h1 : (a.add o).add i = ⟨(a.add o).block, (a.add o).off + i, none⟩ := by
      conv => lhs; unfold Addr.add
      rw [if_neg hi]
      rfl
    rw [h1, add_block, add_off]
    unfold Addr.add
    rw [if_neg (by omega), Nat.add_assoc]
set_option maxRecDepth 100000 in
theorem BAt.from {W : World} {a : Addr} {n : Nat} {xs : List Int} (h : BAt W (some a) n xs) (o : Nat) (hn : o ≤ n) : BAt W (some (a.add o)) (n - o) (xs.drop o) := by
  refine ⟨by simp [h.1], fun hp => ?_⟩
  obtain ⟨a', e, hlt, hc⟩ := h.2 (by omega)
  cases e
  refine ⟨_, rfl, by rw [add_block]; exact hlt, fun i hi => ?_⟩
  rw [add_add, hc (o + i) (by omega)]
  simp [List.getD]
/-- The numbers of so many bytes each. -/
def allL (K : Nat) (xs : List Int) : List Int := (List.range (xs.length / K)).map (fun i => numL ((xs.drop (K * i)).take K))
theorem allL_length (K : Nat) (xs : List Int) : (allL K xs).length = xs.length / K := by simp [allL]
theorem allL_get (K : Nat) (xs : List Int) (i : Nat) (h : i < xs.length / K) : (allL K xs).getD i 0 = numL ((xs.drop (K * i)).take K) := by
  simp [allL, List.getD, h]
theorem splice_all (N : Nat) (A : List Int) (h : A.length = N) : splice (zeros N) 0 A = A := by
  unfold splice
  rw [Nat.zero_add, List.drop_of_length_le (by rw [zeros_length]; omega)]
  simp
end Go.Proofs.YtehaoeclnmelhacGreat
