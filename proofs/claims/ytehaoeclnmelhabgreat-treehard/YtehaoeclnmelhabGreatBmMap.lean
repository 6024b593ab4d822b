/-
  A map whose keys are pairs of ints: 'm[k]++', whatever order its parts are done in.
-/
import Derived.Test.YtehaoeclnmelhabGreatBmPlace
import Derived.Maps.OwnSet
import Derived.WideKeyEntry
import Derived.WideKeyPair
namespace Go.Proofs.YtehaoeclnmelhabGreat
open Go Go.Proofs Go.RowKit Go.Shelf
open Go.ChangeMaps (setBlock heap_setBlock_same heap_setBlock_other)
open Go.WideElems (Fit)
open Go.WideMaps (KeyLaw ArrKey)
open Go.MapKept

theorem key_same {a b : MapEntry} : ∀ l : List MapEntry, l.Pairwise (fun x y => x.key ≠ y.key) → a ∈ l → b ∈ l → a.key = b.key → a = b
  | [], _, h, _, _ => by cases h
  | c :: r, hp, ha, hb, e => by
    obtain ⟨h1, h2⟩ := List.pairwise_cons.1 hp
    rcases List.mem_cons.1 ha with ea | ha'
    · rcases List.mem_cons.1 hb with eb | hb'
      · rw [ea, eb]
      · exact absurd e (by rw [ea]; exact h1 b hb')
    · rcases List.mem_cons.1 hb with eb | hb'
      · exact absurd e.symm (by rw [eb]; exact h1 a ha')
      · exact key_same r h2 ha' hb' e
section
variable {P : Program} {w : World} {t k e : TypeId} {b : Nat} {es : Array MapEntry} {clock : Nat}
/-- A look-up in a map of which it is known what finding the key tells. -/
theorem look_run (K : KeyLaw P k) (ht : P.underlying t = some (.map k e)) {z : Value} (hz : (zeroValue e).run P w = .ok z w) (hb : w.heap[b]? = some (.map es clock)) {key : Value} {kl : Lit} (hkey : keyOf P k key = some kl)
    {r : Option (Nat × Value)} (hf : (Instr.findKey k key es.toList).run P w = .ok r w) : (Instr.lookup t (.map (some b)) key false).run P w = .ok ((r.map (·.2)).getD z) w := by
  have hg := MapKept.run_getObj_map (P := P) hb
  have hc := K.check w es.isEmpty hkey
  unfold Instr.lookup
  cases r with
  | none => simp [run_underlying ht, hg, hc, hf, hz, Result.andThen]
  | some x => simp [run_underlying ht, hg, hc, hf, Result.andThen]
/-- The entry of a key that is not there. -/
theorem entry_new (K : KeyLaw P k) (ht : P.underlying t = some (.map k e)) {z : Value} (hz : (zeroValue e).run P w = .ok z w) (hb : w.heap[b]? = some (.map es clock)) {key : Value} {kl : Lit} (hkey : keyOf P k key = some kl)
    (hf : (Instr.findKey k key es.toList).run P w = .ok none w) : (Instr.mapEntry t (.map (some b)) key).run P w = .ok (.tuple #[z, goInt clock]) (setBlock w b (.map (es.push ⟨key, z, clock⟩) (clock + 1))) := by
  have hg := MapKept.run_getObj_map (P := P) hb
  have hs := MapKept.run_setObj_map (P := P) (.map (es.push ⟨key, z, clock⟩) (clock + 1)) hb
  have hc := K.check w false hkey
  unfold Instr.mapEntry setBlock
  simp [run_underlying ht, hg, hc, hf, hz, hs, Result.andThen]
/-- The entry of a key that is there: nothing turns. -/
theorem entry_old (K : KeyLaw P k) (ht : P.underlying t = some (.map k e)) (hb : w.heap[b]? = some (.map es clock)) {key : Value} {kl : Lit} (hkey : keyOf P k key = some kl) {j : Nat} {e0 : MapEntry}
    (hf : (Instr.findKey k key es.toList).run P w = .ok (some (j, e0.val)) w) (hj : es[j]? = some e0) (hk : e0.key = key) : (Instr.mapEntry t (.map (some b)) key).run P w = .ok (.tuple #[e0.val, goInt e0.born]) (setBlock w b (.map es clock)) := by
  have hsame : es.modify j (fun x => { x with key := key }) = es := by
    apply Array.ext_getElem?
    intro i
    rw [Array.getElem?_modify]
    by_cases hi : j = i
    · subst hi
      subst hk
      rw [if_pos rfl, hj]
      rfl
    · rw [if_neg hi]
  have hg := MapKept.run_getObj_map (P := P) hb
  have hs := MapKept.run_setObj_map (P := P) (.map es clock) hb
  have hc := K.check w false hkey
  have hst := K.stays w hkey
  unfold Instr.mapEntry setBlock
  simp [run_underlying ht, hg, hc, hf, hj, hk, hst, hsame, hs, Result.andThen]
end
theorem block_of {w : World} {b : Nat} {es es1 : Array MapEntry} {clock clock1 : Nat} {v v1 : Value} {P : Program} {x : Sem Value} {o : Obj} (hb : w.heap[b]? = some o) (h1 : x.run P w = .ok v1 (setBlock w b (.map es1 clock1))) (h2 : x.run P w = .ok v (setBlock w b (.map es clock))) : v1 = v ∧ es1 = es ∧ clock1 = clock := by
  rw [h1] at h2
  simp only [Result.ok.injEq] at h2
  have ew := congrArg (fun u : World => u.heap[b]?) h2.2
  have hlt := lt_of_block hb
  simp [setBlock, hlt] at ew
  exact ⟨h2.1, ew.1, ew.2⟩

/-- What 'm[k]++' does: the entry, the look-up ahead of it or behind it, the store. -/
theorem entry_parts {H : Type} {P : Program} {w : World} {t k e : TypeId} {R : Value → Option (DataW H × List MemPlace)} {b : Nat} {es : Array MapEntry} {clock : Nat} (K : KeyLaw P k) (ht : P.underlying t = some (.map k e)) {z : Value} (hz : ∀ u : World, (zeroValue e).run P u = .ok z u) (hb : w.heap[b]? = some (.map es clock)) (F : Fit P k R es clock)
    {key : Value} {kl : Lit} (hkey : keyOf P k key = some kl) :
    ∃ (v0 : Value) (st : Nat) (es1 : Array MapEntry) (clock1 : Nat), (Instr.mapEntry t (.map (some b)) key).run P w = .ok (.tuple #[v0, goInt st]) (setBlock w b (.map es1 clock1)) ∧
      (Instr.lookup t (.map (some b)) key false).run P w = .ok v0 w ∧ (Instr.lookup t (.map (some b)) key false).run P (setBlock w b (.map es1 clock1)) = .ok v0 (setBlock w b (.map es1 clock1)) ∧
      ∀ (w2 : World) (val : Value), w2.heap[b]? = some (.map es1 clock1) → ∃ es' clock', (Instr.entryStore t (.map (some b)) (goInt st) val).run P w2 = .ok () (setBlock w2 b (.map es' clock')) ∧
        (Instr.mapUpdate t (.map (some b)) key val).run P w = .ok () (setBlock w b (.map es' clock')) := by
  obtain ⟨v0, st, es1, clock1, hrun, _, hst⟩ := WideElems.entry_then_store K ht hz hb F hkey
  have hb1 := heap_setBlock_same hb (.map es1 clock1)
  rcases K.find w hkey es.toList F.keys with ⟨h1, h2⟩ | ⟨j, e0, h1, h2, h3⟩
  · obtain ⟨ev, rfl, rfl⟩ := block_of hb hrun (entry_new K ht (hz w) hb hkey h1)
    obtain rfl : v0 = z := by simp at ev; exact ev.1
    refine ⟨v0, st, _, _, hrun, look_run K ht (hz w) hb hkey h1, ?_, hst⟩
    have hks : ∀ x ∈ (es.push ⟨key, v0, clock⟩).toList, ∃ l, keyOf P k x.key = some l := by
      intro x hx
      rw [Array.toList_push] at hx
      rcases List.mem_append.1 hx with hx | hx
      · exact F.keys x hx
      · obtain rfl := List.mem_singleton.1 hx
        exact ⟨_, hkey⟩
    rcases K.find (setBlock w b (.map (es.push ⟨key, v0, clock⟩) (clock + 1))) hkey _ hks with ⟨g1, g2⟩ | ⟨j, e1, g1, g2, g3⟩
    · exact absurd rfl (g2 ⟨key, v0, clock⟩ (by simp))
    · have hm : e1 ∈ (es.push ⟨key, v0, clock⟩).toList := List.mem_of_getElem? g2
      rw [Array.toList_push] at hm
      rcases List.mem_append.1 hm with hx | hx
      · exact absurd g3 (h2 e1 hx)
      · obtain rfl := List.mem_singleton.1 hx
        exact look_run K ht (hz _) hb1 hkey g1
  · have hj : es[j]? = some e0 := by simpa using h2
    obtain ⟨ev, rfl, rfl⟩ := block_of hb hrun (entry_old K ht hb hkey h1 hj h3)
    obtain rfl : v0 = e0.val := by simp at ev; exact ev.1
    refine ⟨e0.val, st, _, _, hrun, look_run K ht (hz w) hb hkey h1, ?_, hst⟩
    rcases K.find (setBlock w b (.map es1 clock1)) hkey es1.toList F.keys with ⟨g1, g2⟩ | ⟨i, e1, g1, g2, g3⟩
    · exact absurd h3 (g2 e0 (List.mem_of_getElem? h2))
    · obtain rfl : e1 = e0 := key_same _ ((stamped_iff es1 clock1).1 F.stamped).2.2 (List.mem_of_getElem? g2) (List.mem_of_getElem? h2) (g3.trans h3.symm)
      exact look_run K ht (hz _) hb1 hkey g1

theorem arr2 : ArrKey Tryz.prog 122 3 2 := ⟨Tryz.underlying122, by kernel_rfl, by kernel_rfl, by kernel_rfl⟩
theorem law2 : KeyLaw Tryz.prog 122 := arr2.law
theorem keyed2 : Maps.Keyed Tryz.prog 122 := Maps.Keyed.of_law law2
theorem types_some : ∃ m, Tryz.prog.types.size = m + 1 := ⟨Tryz.prog.types.size - 1, by kernel_rfl⟩
theorem zero3 (w : World) : (zeroValue 3).run Tryz.prog w = .ok (.int .i64 0) w := by kernel_rfl
/-- The pair as a key. -/
def pr (a c : Int) : Value := .agg #[.int .i64 a, .int .i64 c]
def kyB (a c : Int) : Lit := .string (keyBytes [.int .i64 a, .int .i64 c])
def okI (a : Int) : Prop := (Lit.int .i64 a).wf = true
theorem okI_of {a : Int} (h : -9223372036854775808 ≤ a) (h' : a ≤ 9223372036854775807) : okI a := WalkArith.wf_i64 (by omega)
theorem ky_of {a c : Int} (ha : okI a) (hc : okI c) : keyOf Tryz.prog 122 (pr a c) = some (kyB a c) := WideMaps.keyOf_pair arr2 Tryz.underlying3 types_some ha hc
theorem ky_inj {a c a' c' : Int} (ha : okI a) (hc : okI c) (ha' : okI a') (hc' : okI c') (h : kyB a c = kyB a' c') : a = a' ∧ c = c' := by
  have h1 := ky_of ha hc
  have h2 := ky_of ha' hc'
  rw [← h] at h2
  have := law2.inj h1 h2
  simpa [pr] using this
/-- Block b is a map with n keys, which are those that p tells of. -/
def MpAt (W : World) (b n : Nat) (p : Int → Int → Bool) : Prop :=
  ∃ D : DataW Unit, W.ownsMap Tryz.prog 122 (plainElem Tryz.prog 3) b n D ∧ Maps.size D = n ∧ ∀ a c, okI a → okI c → Maps.has D (kyB a c) = p a c
theorem MpAt.new (W : World) : MpAt (W.alloc (.map #[] 0)) W.heap.size 0 (fun _ _ => false) :=
  ⟨.map [], World.ownsMap_made W _ _ _, rfl, fun _ _ _ _ => rfl⟩
theorem MpAt.lt {W : World} {b n : Nat} {p : Int → Int → Bool} (h : MpAt W b n p) : b < W.heap.size := by
  obtain ⟨D, h, _⟩ := h
  exact h.lt
theorem MpAt.kept {W W' : World} {b n : Nat} {p : Int → Int → Bool} (h : MpAt W b n p) (hb : W'.heap[b]? = W.heap[b]?) : MpAt W' b n p := by
  obtain ⟨D, ⟨es, clock, h1, r⟩, h2, h3⟩ := h
  exact ⟨D, ⟨es, clock, hb.trans h1, r⟩, h2, h3⟩
theorem MpAt.drew {W : World} {b n : Nat} {p : Int → Int → Bool} (h : MpAt W b n p) : MpAt W.drew b n p := h.kept rfl
theorem MpAt.say {W : World} {b n : Nat} {p q : Int → Int → Bool} (h : MpAt W b n p) (e : ∀ a c, p a c = q a c) : MpAt W b n q := by
  obtain ⟨D, h1, h2, h3⟩ := h
  exact ⟨D, h1, h2, fun a c ha hc => (h3 a c ha hc).trans (e a c)⟩
theorem owns_size {W : World} {b n : Nat} {D : DataW Unit} (h : W.ownsMap Tryz.prog 122 (plainElem Tryz.prog 3) b n D) : W.ownsMap Tryz.prog 122 (plainElem Tryz.prog 3) b (Maps.size D) D := by
  obtain ⟨es, clock, h1, h2, h3, rfl⟩ := h
  exact ⟨es, clock, h1, h2, by simp [Maps.size, length_sorted], rfl⟩
theorem MpAt.len {W : World} {b n : Nat} {p : Int → Int → Bool} (h : MpAt W b n p) : (Builtin.len_ #[119] 3 #[.map (some b)]).run Tryz.prog W = .ok (.int .i64 n) W := by
  obtain ⟨D, h1, h2, h3⟩ := h
  rw [h1.len Tryz.underlying119, h2]
/-- 'm[k]++'. -/
theorem MpAt.inc {W : World} {b n : Nat} {p : Int → Int → Bool} (h : MpAt W b n p) (hn : n < maxLen) {a c : Int} (ha : okI a) (hc : okI c) :
    ∃ (x : Int) (st : Nat) (W1 W2 : World), (Instr.lookup 119 (.map (some b)) (pr a c) false).run Tryz.prog W = .ok (.int .i64 x) W ∧
      (Instr.mapEntry 119 (.map (some b)) (pr a c)).run Tryz.prog W = .ok (.tuple #[.int .i64 x, goInt st]) W1 ∧
      (Instr.lookup 119 (.map (some b)) (pr a c) false).run Tryz.prog W1 = .ok (.int .i64 x) W1 ∧
      (Instr.entryStore 119 (.map (some b)) (goInt st) (.int .i64 (IntKind.i64.wrap (x + 1)))).run Tryz.prog W1 = .ok () W2 ∧
      MpAt W2 b (if p a c = true then n else n + 1) (fun a' c' => p a' c' || decide (a' = a ∧ c' = c)) ∧ W.grownBy W2 (some b) := by
  obtain ⟨D, hown, hsz, hhas⟩ := h
  obtain ⟨x, hlk, hat, hwx⟩ := hown.lookup_int keyed2 Tryz.underlying119 Tryz.underlying3 (zero3 _) (ky_of ha hc)
  obtain ⟨W3, hup, hown3, hg3⟩ := hown.update keyed2 Tryz.underlying119 hn (ky_of ha hc) (plainElem_int (H := Unit) (a := IntKind.i64.wrap (x + 1)) Tryz.underlying3 (okI_of (by rw [IntKind.wrap_i64]; omega) (by rw [IntKind.wrap_i64]; omega)))
  have htidy := hown.tidy keyed2
  have hkl : WideAt.IsKeyLit (kyB a c) := keyed2.key (ky_of ha hc)
  obtain ⟨es, clock, hb, F, _, _⟩ := hown
  obtain ⟨v0, st, es1, clock1, h1, h2, h3, h4⟩ := entry_parts law2 Tryz.underlying119 zero3 hb F (ky_of ha hc)
  rw [hlk] at h2
  simp only [Result.ok.injEq, and_true] at h2
  subst h2
  obtain ⟨es', clock', h5, h6⟩ := h4 (setBlock W b (.map es1 clock1)) (.int .i64 (IntKind.i64.wrap (x + 1))) (heap_setBlock_same hb _)
  rw [hup] at h6
  simp only [Result.ok.injEq, true_and] at h6
  have e2 : setBlock (setBlock W b (.map es1 clock1)) b (.map es' clock') = W3 := by rw [h6]; simp [setBlock]
  rw [e2] at h5
  refine ⟨x, st, _, W3, hlk, h1, h3, h5, ⟨D.put (kyB a c) (.lit (.int .i64 (IntKind.i64.wrap (x + 1)))), ?_, ?_, ?_⟩, hg3⟩
  · have hs := Maps.size_put (k := kyB a c) htidy (.lit (.int .i64 (IntKind.i64.wrap (x + 1))))
    have e3 : (if p a c = true then n else n + 1) = Maps.size (D.put (kyB a c) (.lit (.int .i64 (IntKind.i64.wrap (x + 1))))) := by rw [hs, hhas a c ha hc, hsz]
    rw [e3]
    exact owns_size hown3
  · rw [Maps.size_put htidy, hhas a c ha hc, hsz]
  · intro a' c' ha' hc'
    by_cases e : a' = a ∧ c' = c
    · obtain ⟨rfl, rfl⟩ := e
      rw [Maps.has_put_same htidy.isMap hkl]
      simp
    · rw [Maps.has_put_other (fun ek => e (ky_inj ha' hc' ha hc ek)), hhas a' c' ha' hc']
      show p a' c' = (p a' c' || decide (a' = a ∧ c' = c))
      rw [decide_eq_false e, Bool.or_false]
end Go.Proofs.YtehaoeclnmelhabGreat
