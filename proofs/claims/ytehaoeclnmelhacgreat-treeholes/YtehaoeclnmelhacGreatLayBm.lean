/-
  Place, First and Count of the program and of the reference.
-/
import Derived.Test.YtehaoeclnmelhacGreatLayNm
import Derived.Test.YtehaoeclnmelhacGreatBmSpec
import Derived.Maps.OwnSet
import Derived.WideKeyEntry
import Derived.WideKeyPair
namespace Go.Proofs.YtehaoeclnmelhacGreat
open Go Go.Proofs Go.RowKit Go.Shelf
theorem results_tmp4 {fn : Func} {t u v x : Tmp} (h : fn.results = #[.tmp t, .tmp u, .tmp v, .tmp x]) (tmps : Array Value) (P : Program) (w : World) :
    (results fn tmps).run P w = .ok (.tuple #[tmps.getD t undef, tmps.getD u undef, tmps.getD v undef, tmps.getD x undef]) w := by
  simp [results, h]
/-- What Place answers. -/
def plV (n : Int) : Value := .tuple #[.int .i64 (blL n), .int .i64 (blX n), .int .i64 (blY n), .bool (blB n)]
theorem pl_no {n : Int} (h : n < 0 ∨ 65800 ≤ n) : plV n = .tuple #[.int .i64 0, .int .i64 0, .int .i64 0, .bool false] := by
  have e : blB n = false := by
    cases hb : blB n with
    | false => rfl
    | true => have := bl_iff.1 hb; omega
  simp [plV, blL, blX, blY, e]
theorem pl_yes {n : Int} (h : 0 ≤ n) (h' : n < 65800) : plV n = .tuple #[.int .i64 (if n < 8 then 0 else if n < 264 then 1 else 2), .int .i64 (if n < 8 then n else if n < 264 then n - 8 else (n - 264) / 256), .int .i64 (if n < 264 then 0 else (n - 264) % 256), .bool true] := by
  have e : blB n = true := bl_iff.2 ⟨h, h'⟩
  simp [plV, blL, blX, blY, e]
set_option maxRecDepth 100000 in
theorem place_any (w : World) (n : Int) : Calls Tryz.prog 75 #[.int .i64 n] w fun e w' => e = .returned (plV n) ∧ w' = w := by
  by_cases h0 : n < 0
  · rw [pl_no (.inl h0)]
    go_enter Tryz.func75, Tryz.ntmps75
    go_wp2
    refine bodyPost_ret (results_tmp4 rfl _ _ _) rfl ?_
    exact ⟨rfl, rfl⟩
  · by_cases h1 : 65800 ≤ n
    · rw [pl_no (.inr h1)]
      go_enter Tryz.func75, Tryz.ntmps75
      go_wp2
      refine bodyPost_ret (results_tmp4 rfl _ _ _) rfl ?_
      exact ⟨rfl, rfl⟩
    · rw [pl_yes (by omega) (by omega)]
      by_cases h2 : n < 8
      · rw [if_pos h2, if_pos h2, if_pos (by omega)]
        go_enter Tryz.func75, Tryz.ntmps75
        go_wp2
        refine bodyPost_ret (results_tmp4 rfl _ _ _) rfl ?_
        exact ⟨rfl, rfl⟩
      · by_cases h3 : n < 264
        · rw [if_neg h2, if_neg h2, if_pos h3, if_pos h3, if_pos h3]
          have e1 : IntKind.i64.wrap (n - 8) = n - 8 := by rw [IntKind.wrap_i64]; omega
          go_enter Tryz.func75, Tryz.ntmps75
          go_wp2
          refine bodyPost_ret (results_tmp4 rfl _ _ _) rfl ?_
          exact ⟨rfl, rfl⟩
        · rw [if_neg h2, if_neg h2, if_neg h3, if_neg h3, if_neg h3]
          have e1 : IntKind.i64.wrap (n - 264) = n - 264 := by rw [IntKind.wrap_i64]; omega
          have e2 : Int.tdiv (n - 264) 256 = (n - 264) / 256 := by rw [Int.tdiv_eq_ediv_of_nonneg (by omega)]
          have e3 : Int.tmod (n - 264) 256 = (n - 264) % 256 := by rw [Int.tmod_eq_emod_of_nonneg (by omega)]
          have e4 : IntKind.i64.wrap ((n - 264) / 256) = (n - 264) / 256 := by rw [IntKind.wrap_i64]; omega
          have e5 : IntKind.i64.wrap ((n - 264) % 256) = (n - 264) % 256 := by rw [IntKind.wrap_i64]; omega
          go_enter Tryz.func75, Tryz.ntmps75
          go_wp2
          refine bodyPost_ret (results_tmp4 rfl _ _ _) rfl ?_
          exact ⟨rfl, rfl⟩
/-- What First answers. -/
def fsV (l i : Int) : Value := .tuple #[.int .i64 (fsI l i), .bool (fsB l i)]
theorem fs_no {l i : Int} (h : ¬ ((l = 0 ∧ 0 ≤ i ∧ i < 8) ∨ (l = 1 ∧ i = 0) ∨ (l = 2 ∧ 0 ≤ i ∧ i < 256))) : fsV l i = .tuple #[.int .i64 0, .bool false] := by
  have e : fsB l i = false := decide_eq_false h
  simp [fsV, fsI, e]
theorem fs_0 {i : Int} (h : 0 ≤ i) (h' : i < 8) : fsV 0 i = .tuple #[.int .i64 i, .bool true] := by
  have e : fsB 0 i = true := decide_eq_true (.inl ⟨rfl, h, h'⟩)
  simp [fsV, fsI, e]
theorem fs_1 : fsV 1 0 = .tuple #[.int .i64 8, .bool true] := rfl
theorem fs_2 {i : Int} (h : 0 ≤ i) (h' : i < 256) : fsV 2 i = .tuple #[.int .i64 (264 + 256 * i), .bool true] := by
  have e : fsB 2 i = true := decide_eq_true (.inr (.inr ⟨rfl, h, h'⟩))
  simp [fsV, fsI, e]
end Go.Proofs.YtehaoeclnmelhacGreat
namespace Go.Proofs.YtehaoeclnmelhacGreat
open Go Go.Proofs Go.RowKit Go.Shelf
open Go.ChangeMaps (setBlock heap_setBlock_same heap_setBlock_other)
open Go.WideElems (Fit)
open Go.WideMaps (KeyLaw ArrKey)
open Go.MapKept

theorem key_same {a b : MapEntry} : ∀ l : List MapEntry, l.Pairwise (fun x y => x.key ≠ y.key) → a ∈ l → b ∈ l → a.key = b.key → a = b
  | [], _, h, _, _ => by cases h
  | c :: r, hp, ha, hb, e => by
    obtain ⟨h1, h2⟩ := List.pairwise_cons.1 hp
    rcases List.mem_cons.1 ha with ea | ha'
    · rcases List.mem_cons.1 hb with eb | hb'
      · rw [ea, eb]
      · exact absurd e (by rw [ea]; exact h1 b hb')
    · rcases List.mem_cons.1 hb with eb | hb'
      · exact absurd e.symm (by rw [eb]; exact h1 a ha')
      · exact key_same r h2 ha' hb' e
section
variable {P : Program} {w : World} {t k e : TypeId} {b : Nat} {es : Array MapEntry} {clock : Nat}
/-- A look-up in a map of which it is known what finding the key tells. -/
theorem look_run (K : KeyLaw P k) (ht : P.underlying t = some (.map k e)) {z : Value} (hz : (zeroValue e).run P w = .ok z w) (hb : w.heap[b]? = some (.map es clock)) {key : Value} {kl : Lit} (hkey : keyOf P k key = some kl)
    {r : Option (Nat × Value)} (hf : (Instr.findKey k key es.toList).run P w = .ok r w) : (Instr.lookup t (.map (some b)) key false).run P w = .ok ((r.map (·.2)).getD z) w := by
  have hg := MapKept.run_getObj_map (P := P) hb
  have hc := K.check w es.isEmpty hkey
  unfold Instr.lookup
  cases r with
  | none => simp [run_underlying ht, hg, hc, hf, hz, Result.andThen]
  | some x => simp [run_underlying ht, hg, hc, hf, Result.andThen]
/-- The entry of a key that is not there. -/
theorem entry_new (K : KeyLaw P k) (ht : P.underlying t = some (.map k e)) {z : Value} (hz : (zeroValue e).run P w = .ok z w) (hb : w.heap[b]? = some (.map es clock)) {key : Value} {kl : Lit} (hkey : keyOf P k key = some kl)
    (hf : (Instr.findKey k key es.toList).run P w = .ok none w) : (Instr.mapEntry t (.map (some b)) key).run P w = .ok (.tuple #[z, goInt clock]) (setBlock w b (.map (es.push ⟨key, z, clock⟩) (clock + 1))) := by
  have hg := MapKept.run_getObj_map (P := P) hb
  have hs := MapKept.run_setObj_map (P := P) (.map (es.push ⟨key, z, clock⟩) (clock + 1)) hb
  have hc := K.check w false hkey
  unfold Instr.mapEntry setBlock
  simp [run_underlying ht, hg, hc, hf, hz, hs, Result.andThen]
/-- The entry of a key that is there: nothing turns. -/
theorem entry_old (K : KeyLaw P k) (ht : P.underlying t = some (.map k e)) (hb : w.heap[b]? = some (.map es clock)) {key : Value} {kl : Lit} (hkey : keyOf P k key = some kl) {j : Nat} {e0 : MapEntry}
    (hf : (Instr.findKey k key es.toList).run P w = .ok (some (j, e0.val)) w) (hj : es[j]? = some e0) (hk : e0.key = key) : (Instr.mapEntry t (.map (some b)) key).run P w = .ok (.tuple #[e0.val, goInt e0.born]) (setBlock w b (.map es clock)) := by
  have hsame : es.modify j (fun x => { x with key := key }) = es := by
    apply Array.ext_getElem?
    intro i
    rw [Array.getElem?_modify]
    by_cases hi : j = i
    · subst hi
      subst hk
      rw [if_pos rfl, hj]
      rfl
    · rw [if_neg hi]
  have hg := MapKept.run_getObj_map (P := P) hb
  have hs := MapKept.run_setObj_map (P := P) (.map es clock) hb
  have hc := K.check w false hkey
  have hst := K.stays w hkey
  unfold Instr.mapEntry setBlock
  simp [run_underlying ht, hg, hc, hf, hj, hk, hst, hsame, hs, Result.andThen]
end
theorem block_of {w : World} {b : Nat} {es es1 : Array MapEntry} {clock clock1 : Nat} {v v1 : Value} {P : Program} {x : Sem Value} {o : Obj} (hb : w.heap[b]? = some o) (h1 : x.run P w = .ok v1 (setBlock w b (.map es1 clock1))) (h2 : x.run P w = .ok v (setBlock w b (.map es clock))) : v1 = v ∧ es1 = es ∧ clock1 = clock := by
  rw [h1] at h2
  simp only [Result.ok.injEq] at h2
  have ew := congrArg (fun u : World => u.heap[b]?) h2.2
  have hlt := lt_of_block hb
  simp [setBlock, hlt] at ew
  exact ⟨h2.1, ew.1, ew.2⟩

/-- What 'm[k]++' does: the entry, the look-up ahead of it or behind it, the store. -/
theorem entry_parts {H : Type} {P : Program} {w : World} {t k e : TypeId} {R : Value → Option (DataW H × List MemPlace)} {b : Nat} {es : Array MapEntry} {clock : Nat} (K : KeyLaw P k) (ht : P.underlying t = some (.map k e)) {z : Value} (hz : ∀ u : World, (zeroValue e).run P u = .ok z u) (hb : w.heap[b]? = some (.map es clock)) (F : Fit P k R es clock)
    {key : Value} {kl : Lit} (hkey : keyOf P k key = some kl) :
    ∃ (v0 : Value) (st : Nat) (es1 : Array MapEntry) (clock1 : Nat), (Instr.mapEntry t (.map (some b)) key).run P w = .ok (.tuple #[v0, goInt st]) (setBlock w b (.map es1 clock1)) ∧
      (Instr.lookup t (.map (some b)) key false).run P w = .ok v0 w ∧ (Instr.lookup t (.map (some b)) key false).run P (setBlock w b (.map es1 clock1)) = .ok v0 (setBlock w b (.map es1 clock1)) ∧
      ∀ (w2 : World) (val : Value), w2.heap[b]? = some (.map es1 clock1) → ∃ es' clock', (Instr.entryStore t (.map (some b)) (goInt st) val).run P w2 = .ok () (setBlock w2 b (.map es' clock')) ∧
        (Instr.mapUpdate t (.map (some b)) key val).run P w = .ok () (setBlock w b (.map es' clock')) := by
  obtain ⟨v0, st, es1, clock1, hrun, _, hst⟩ := WideElems.entry_then_store K ht hz hb F hkey
  have hb1 := heap_setBlock_same hb (.map es1 clock1)
  rcases K.find w hkey es.toList F.keys with ⟨h1, h2⟩ | ⟨j, e0, h1, h2, h3⟩
  · obtain ⟨ev, rfl, rfl⟩ := block_of hb hrun (entry_new K ht (hz w) hb hkey h1)
    obtain rfl : v0 = z := by simp at ev; exact ev.1
    refine ⟨v0, st, _, _, hrun, look_run K ht (hz w) hb hkey h1, ?_, hst⟩
    have hks : ∀ x ∈ (es.push ⟨key, v0, clock⟩).toList, ∃ l, keyOf P k x.key = some l := by
      intro x hx
      rw [Array.toList_push] at hx
      rcases List.mem_append.1 hx with hx | hx
      · exact F.keys x hx
      · obtain rfl := List.mem_singleton.1 hx
        exact ⟨_, hkey⟩
    rcases K.find (setBlock w b (.map (es.push ⟨key, v0, clock⟩) (clock + 1))) hkey _ hks with ⟨g1, g2⟩ | ⟨j, e1, g1, g2, g3⟩
    · exact absurd rfl (g2 ⟨key, v0, clock⟩ (by simp))
    · have hm : e1 ∈ (es.push ⟨key, v0, clock⟩).toList := List.mem_of_getElem? g2
      rw [Array.toList_push] at hm
      rcases List.mem_append.1 hm with hx | hx
      · exact absurd g3 (h2 e1 hx)
      · obtain rfl := List.mem_singleton.1 hx
        exact look_run K ht (hz _) hb1 hkey g1
  · have hj : es[j]? = some e0 := by simpa using h2
    obtain ⟨ev, rfl, rfl⟩ := block_of hb hrun (entry_old K ht hb hkey h1 hj h3)
    obtain rfl : v0 = e0.val := by simp at ev; exact ev.1
    refine ⟨e0.val, st, _, _, hrun, look_run K ht (hz w) hb hkey h1, ?_, hst⟩
    rcases K.find (setBlock w b (.map es1 clock1)) hkey es1.toList F.keys with ⟨g1, g2⟩ | ⟨i, e1, g1, g2, g3⟩
    · exact absurd h3 (g2 e0 (List.mem_of_getElem? h2))
    · obtain rfl : e1 = e0 := key_same _ ((stamped_iff es1 clock1).1 F.stamped).2.2 (List.mem_of_getElem? g2) (List.mem_of_getElem? h2) (g3.trans h3.symm)
      exact look_run K ht (hz _) hb1 hkey g1

theorem arr2 : ArrKey Tryz.prog 119 3 2 := ⟨Tryz.underlying119, by kernel_rfl, by kernel_rfl, by kernel_rfl⟩
theorem law2 : KeyLaw Tryz.prog 119 := arr2.law
theorem keyed2 : Maps.Keyed Tryz.prog 119 := Maps.Keyed.of_law law2
theorem types_some : ∃ m, Tryz.prog.types.size = m + 1 := ⟨Tryz.prog.types.size - 1, by kernel_rfl⟩
theorem zero3 (w : World) : (zeroValue 3).run Tryz.prog w = .ok (.int .i64 0) w := by kernel_rfl
/-- The pair as a key. -/
def pr (a c : Int) : Value := .agg #[.int .i64 a, .int .i64 c]
def kyB (a c : Int) : Lit := .string (keyBytes [.int .i64 a, .int .i64 c])
def okI (a : Int) : Prop := (Lit.int .i64 a).wf = true
theorem okI_of {a : Int} (h : -9223372036854775808 ≤ a) (h' : a ≤ 9223372036854775807) : okI a := WalkArith.wf_i64 (by omega)
theorem ky_of {a c : Int} (ha : okI a) (hc : okI c) : keyOf Tryz.prog 119 (pr a c) = some (kyB a c) := WideMaps.keyOf_pair arr2 Tryz.underlying3 types_some ha hc
theorem ky_inj {a c a' c' : Int} (ha : okI a) (hc : okI c) (ha' : okI a') (hc' : okI c') (h : kyB a c = kyB a' c') : a = a' ∧ c = c' := by
  have h1 := ky_of ha hc
  have h2 := ky_of ha' hc'
  rw [← h] at h2
  have := law2.inj h1 h2
  simpa [pr] using this
/-- Block b is a map with n keys, which are those that p tells of. -/
def MpAt (W : World) (b n : Nat) (p : Int → Int → Bool) : Prop :=
  ∃ D : DataW Unit, W.ownsMap Tryz.prog 119 (plainElem Tryz.prog 3) b n D ∧ Maps.size D = n ∧ ∀ a c, okI a → okI c → Maps.has D (kyB a c) = p a c
theorem MpAt.new (W : World) : MpAt (W.alloc (.map #[] 0)) W.heap.size 0 (fun _ _ => false) :=
  ⟨.map [], World.ownsMap_made W _ _ _, rfl, fun _ _ _ _ => rfl⟩
theorem MpAt.lt {W : World} {b n : Nat} {p : Int → Int → Bool} (h : MpAt W b n p) : b < W.heap.size := by
  obtain ⟨D, h, _⟩ := h
  exact h.lt
theorem MpAt.kept {W W' : World} {b n : Nat} {p : Int → Int → Bool} (h : MpAt W b n p) (hb : W'.heap[b]? = W.heap[b]?) : MpAt W' b n p := by
  obtain ⟨D, ⟨es, clock, h1, r⟩, h2, h3⟩ := h
  exact ⟨D, ⟨es, clock, hb.trans h1, r⟩, h2, h3⟩
theorem MpAt.drew {W : World} {b n : Nat} {p : Int → Int → Bool} (h : MpAt W b n p) : MpAt W.drew b n p := h.kept rfl
theorem MpAt.say {W : World} {b n : Nat} {p q : Int → Int → Bool} (h : MpAt W b n p) (e : ∀ a c, p a c = q a c) : MpAt W b n q := by
  obtain ⟨D, h1, h2, h3⟩ := h
  exact ⟨D, h1, h2, fun a c ha hc => (h3 a c ha hc).trans (e a c)⟩
theorem owns_size {W : World} {b n : Nat} {D : DataW Unit} (h : W.ownsMap Tryz.prog 119 (plainElem Tryz.prog 3) b n D) : W.ownsMap Tryz.prog 119 (plainElem Tryz.prog 3) b (Maps.size D) D := by
  obtain ⟨es, clock, h1, h2, h3, rfl⟩ := h
  exact ⟨es, clock, h1, h2, by simp [Maps.size, length_sorted], rfl⟩
theorem MpAt.len {W : World} {b n : Nat} {p : Int → Int → Bool} (h : MpAt W b n p) : (Builtin.len_ #[116] 3 #[.map (some b)]).run Tryz.prog W = .ok (.int .i64 n) W := by
  obtain ⟨D, h1, h2, h3⟩ := h
  rw [h1.len Tryz.underlying116, h2]
/-- 'm[k]++'. -/
theorem MpAt.inc {W : World} {b n : Nat} {p : Int → Int → Bool} (h : MpAt W b n p) (hn : n < maxLen) {a c : Int} (ha : okI a) (hc : okI c) :
    ∃ (x : Int) (st : Nat) (W1 W2 : World), (Instr.lookup 116 (.map (some b)) (pr a c) false).run Tryz.prog W = .ok (.int .i64 x) W ∧
      (Instr.mapEntry 116 (.map (some b)) (pr a c)).run Tryz.prog W = .ok (.tuple #[.int .i64 x, goInt st]) W1 ∧
      (Instr.lookup 116 (.map (some b)) (pr a c) false).run Tryz.prog W1 = .ok (.int .i64 x) W1 ∧
      (Instr.entryStore 116 (.map (some b)) (goInt st) (.int .i64 (IntKind.i64.wrap (x + 1)))).run Tryz.prog W1 = .ok () W2 ∧
      MpAt W2 b (if p a c = true then n else n + 1) (fun a' c' => p a' c' || decide (a' = a ∧ c' = c)) ∧ W.grownBy W2 (some b) := by
  obtain ⟨D, hown, hsz, hhas⟩ := h
  obtain ⟨x, hlk, hat, hwx⟩ := hown.lookup_int keyed2 Tryz.underlying116 Tryz.underlying3 (zero3 _) (ky_of ha hc)
  obtain ⟨W3, hup, hown3, hg3⟩ := hown.update keyed2 Tryz.underlying116 hn (ky_of ha hc) (plainElem_int (H := Unit) (a := IntKind.i64.wrap (x + 1)) Tryz.underlying3 (okI_of (by rw [IntKind.wrap_i64]; omega) (by rw [IntKind.wrap_i64]; omega)))
  have htidy := hown.tidy keyed2
  have hkl : WideAt.IsKeyLit (kyB a c) := keyed2.key (ky_of ha hc)
  obtain ⟨es, clock, hb, F, _, _⟩ := hown
  obtain ⟨v0, st, es1, clock1, h1, h2, h3, h4⟩ := entry_parts law2 Tryz.underlying116 zero3 hb F (ky_of ha hc)
  rw [hlk] at h2
  simp only [Result.ok.injEq, and_true] at h2
  subst h2
  obtain ⟨es', clock', h5, h6⟩ := h4 (setBlock W b (.map es1 clock1)) (.int .i64 (IntKind.i64.wrap (x + 1))) (heap_setBlock_same hb _)
  rw [hup] at h6
  simp only [Result.ok.injEq, true_and] at h6
  have e2 : setBlock (setBlock W b (.map es1 clock1)) b (.map es' clock') = W3 := by rw [h6]; simp [setBlock]
  rw [e2] at h5
  refine ⟨x, st, _, W3, hlk, h1, h3, h5, ⟨D.put (kyB a c) (.lit (.int .i64 (IntKind.i64.wrap (x + 1)))), ?_, ?_, ?_⟩, hg3⟩
  · have hs := Maps.size_put (k := kyB a c) htidy (.lit (.int .i64 (IntKind.i64.wrap (x + 1))))
    have e3 : (if p a c = true then n else n + 1) = Maps.size (D.put (kyB a c) (.lit (.int .i64 (IntKind.i64.wrap (x + 1))))) := by rw [hs, hhas a c ha hc, hsz]
    rw [e3]
    exact owns_size hown3
  · rw [Maps.size_put htidy, hhas a c ha hc, hsz]
  · intro a' c' ha' hc'
    by_cases e : a' = a ∧ c' = c
    · obtain ⟨rfl, rfl⟩ := e
      rw [Maps.has_put_same htidy.isMap hkl]
      simp
    · rw [Maps.has_put_other (fun ek => e (ky_inj ha' hc' ha hc ek)), hhas a' c' ha' hc']
      show p a' c' = (p a' c' || decide (a' = a ∧ c' = c))
      rw [decide_eq_false e, Bool.or_false]
end Go.Proofs.YtehaoeclnmelhacGreat
namespace Go.Proofs.YtehaoeclnmelhacGreat
open Go Go.Proofs Go.RowKit Go.Shelf

theorem exec_lookup {P : Program} {ev : Operand → Value} {oi : Oper} {t : TypeId} {m k : Operand} {v kv x : Value} {w w' : World} (ho : oi.op = .lookup t m k false) (hm : ev m = v) (hk : ev k = kv) (h : (Instr.lookup t v kv false).run P w = .ok x w') : (execOp ev oi).run P w = .ok (.value x) w' := by
  unfold execOp
  simp only [ho, Sem.run_bind, Sem.run_pure, Result.andThen_ok, hm, hk, h]
theorem exec_entry {P : Program} {ev : Operand → Value} {oi : Oper} {t : TypeId} {m k : Operand} {v kv x : Value} {w w' : World} (ho : oi.op = .mapEntry t m k) (hm : ev m = v) (hk : ev k = kv) (h : (Instr.mapEntry t v kv).run P w = .ok x w') : (execOp ev oi).run P w = .ok (.value x) w' := by
  unfold execOp
  simp only [ho, Sem.run_bind, Sem.run_pure, Result.andThen_ok, hm, hk, h]
theorem exec_estore {P : Program} {ev : Operand → Value} {oi : Oper} {t : TypeId} {m s x : Operand} {v sv xv : Value} {w w' : World} (ho : oi.op = .entryStore t m s x) (hm : ev m = v) (hs : ev s = sv) (hx : ev x = xv) (h : (Instr.entryStore t v sv xv).run P w = .ok () w') : (execOp ev oi).run P w = .ok .skip w' := by
  unfold execOp
  simp only [ho, Sem.run_bind, Sem.run_pure, Result.andThen_ok, hm, hs, hx, h]

/-- Which keys the map has behind these blocks. -/
def kyP (l : List Int) (a c : Int) : Bool := (decide (a = 1 ∧ c = 0) && l.any oneB) || (decide (a = 2 ∧ c = -1) && l.any twoB) || (decide (a = 2 ∧ 0 ≤ c) && useB l c.toNat)
theorem ky_none (a c : Int) : kyP [] a c = false := by simp [kyP, useB]
theorem mt_none : mtN [] = 0 := by simp [mtN, useN, useB]
theorem useN_le (l : List Int) : useN l ≤ 256 := by
  unfold useN
  have := List.length_filter_le (useB l) (List.range 256)
  simpa using this
theorem mt_le (l : List Int) : mtN l ≤ 258 := by
  have := useN_le l
  unfold mtN
  split <;> split <;> omega
theorem any_snoc (l : List Int) (n : Int) (p : Int → Bool) : (l ++ [n]).any p = (l.any p || p n) := by simp
/-- A block that wants no indirect one. -/
theorem ky_zero (l : List Int) (n : Int) (h1 : oneB n = false) (h2 : twoB n = false) : mtN (l ++ [n]) = mtN l ∧ ∀ a c, kyP (l ++ [n]) a c = kyP l a c := by
  refine ⟨?_, fun a c => ?_⟩
  · unfold mtN
    rw [any_snoc, any_snoc, use_old l n (.inl h2), h1, h2]
    simp
  · unfold kyP
    rw [any_snoc, any_snoc, use_snoc, h1, h2]
    simp
theorem ky_at1 (l : List Int) : kyP l 1 0 = l.any oneB := by simp [kyP]
theorem ky_at2 (l : List Int) : kyP l 2 (-1) = l.any twoB := by simp [kyP]
theorem ky_at (l : List Int) (k : Nat) : kyP l 2 k = useB l k := by
  unfold kyP
  rw [decide_eq_false (by omega), decide_eq_false (by omega), decide_eq_true ⟨rfl, by omega⟩]
  simp
theorem ky_one (l : List Int) (n : Int) (h1 : oneB n = true) : mtN (l ++ [n]) = (if kyP l 1 0 = true then mtN l else mtN l + 1) ∧ ∀ a c, (kyP l a c || decide (a = 1 ∧ c = 0)) = kyP (l ++ [n]) a c := by
  have h2 : twoB n = false := by
    have := of_decide_eq_true h1
    exact decide_eq_false (by omega)
  refine ⟨?_, fun a c => ?_⟩
  · rw [ky_at1]
    unfold mtN
    rw [any_snoc, any_snoc, use_old l n (.inl h2), h1, h2]
    cases l.any oneB <;> simp <;> omega
  · unfold kyP
    rw [any_snoc, any_snoc, use_snoc, h1, h2]
    cases l.any oneB <;> cases decide (a = 1 ∧ c = 0) <;> simp
theorem ky_two (l : List Int) (n : Int) (h2 : twoB n = true) :
    mtN (l ++ [n]) = (if (kyP l 2 (twoN n : Int) || decide ((2 : Int) = 2 ∧ (twoN n : Int) = -1)) = true then (if kyP l 2 (-1) = true then mtN l else mtN l + 1) else (if kyP l 2 (-1) = true then mtN l else mtN l + 1) + 1) ∧
    ∀ a c, ((kyP l a c || decide (a = 2 ∧ c = -1)) || decide (a = 2 ∧ c = (twoN n : Int))) = kyP (l ++ [n]) a c := by
  have h1 : oneB n = false := by
    have := of_decide_eq_true h2
    exact decide_eq_false (by omega)
  refine ⟨?_, fun a c => ?_⟩
  · rw [ky_at2, ky_at, decide_eq_false (by omega), Bool.or_false]
    cases hu : useB l (twoN n) with
    | true =>
      unfold mtN
      rw [any_snoc, any_snoc, use_old l n (.inr hu), h1, h2]
      cases l.any twoB <;> simp <;> omega
    | false =>
      unfold mtN
      rw [any_snoc, any_snoc, use_new l n h2 hu, h1, h2]
      cases l.any twoB <;> simp <;> omega
  · unfold kyP
    rw [any_snoc, any_snoc, use_snoc, h1, h2]
    by_cases ha : a = 2
    · subst ha
      by_cases hc : c = -1
      · subst hc
        simp
      · rw [decide_eq_false (p := (2 : Int) = 2 ∧ c = -1) (fun e => hc e.2)]
        by_cases hd : 0 ≤ c
        · have e : decide ((2 : Int) = 2 ∧ c = (twoN n : Int)) = decide (twoN n = c.toNat) := by
            by_cases q : twoN n = c.toNat
            · rw [decide_eq_true q, decide_eq_true ⟨rfl, by omega⟩]
            · rw [decide_eq_false q, decide_eq_false (by omega)]
          rw [e, decide_eq_true (p := (2 : Int) = 2 ∧ 0 ≤ c) ⟨rfl, hd⟩, decide_eq_false (p := (2 : Int) = 1 ∧ c = 0) (by omega)]
          simp
        · rw [decide_eq_false (p := (2 : Int) = 2 ∧ 0 ≤ c) (by omega), decide_eq_false (p := (2 : Int) = 2 ∧ c = (twoN n : Int)) (by omega)]
          simp
    · rw [decide_eq_false (p := a = 2 ∧ c = -1) (fun e => ha e.1), decide_eq_false (p := a = 2 ∧ 0 ≤ c) (fun e => ha e.1), decide_eq_false (p := a = 2 ∧ c = (twoN n : Int)) (fun e => ha e.1)]
      simp
/-- Place, by what a block wants. -/
theorem pl_zero {n : Int} (h1 : oneB n = false) (h2 : twoB n = false) : plV n = .tuple #[.int .i64 0, .int .i64 (blX n), .int .i64 (blY n), .bool (blB n)] := by
  have a := of_decide_eq_false h1
  have b := of_decide_eq_false h2
  unfold plV
  have e : blL n = 0 := by
    unfold blL
    by_cases hb : blB n = true
    · have := bl_iff.1 hb
      rw [if_pos hb, if_pos (by omega)]
    · rw [if_neg hb]
  rw [e]
theorem pl_one {n : Int} (h1 : oneB n = true) : plV n = .tuple #[.int .i64 1, .int .i64 (n - 8), .int .i64 0, .bool true] := by
  have a := of_decide_eq_true h1
  rw [pl_yes (by omega) (by omega)]
  simp only [if_neg (show ¬ n < 8 by omega), if_pos (show n < 264 by omega)]
theorem pl_two {n : Int} (h2 : twoB n = true) : plV n = .tuple #[.int .i64 2, .int .i64 (twoN n : Int), .int .i64 ((n - 264) % 256), .bool true] := by
  have a := of_decide_eq_true h2
  rw [pl_yes (by omega) (by omega), show (twoN n : Int) = (n - 264) / 256 by unfold twoN; omega]
  simp only [if_neg (show ¬ n < 8 by omega), if_neg (show ¬ n < 264 by omega)]

set_option maxRecDepth 100000 in
set_option maxHeartbeats 4000000 in
theorem meta_any (w : World) (ao : Option Addr) (n c : Nat) (xs : List Int) (h : LAt w ao n xs) (hn : n ≤ 9223372036854775807) :
    Calls Tryz.prog 64 #[.slice ao n c] w fun e w' => e = .returned (.int .i64 (mtN xs)) ∧ Below w.heap.size w w' := by
  have HH := Hid.mk h
  have HL := Hid.mk h.1
  clear h
  have hmm := @run_makeMap Tryz.prog
  obtain ⟨B, hB⟩ : ∃ B, w.heap.size = B := ⟨_, rfl⟩
  have HBB := Hid.mk hB
  go_enter Tryz.func64, Tryz.ntmps64
  go_wp2
  clear hB
  go_loopw [13] (fun i wr => ∃ k : Nat, k ≤ n ∧ i = .int .i64 k ∧ MpAt wr B (mtN (xs.take k)) (kyP (xs.take k)) ∧ LAt wr ao n xs ∧ Below B w wr ∧ B < wr.heap.size) (fun i _ => n - (intOf i).toNat)
  case atStart =>
    refine ⟨0, by omega, rfl, ?_, ?_, ?_, ?_⟩
    · have := MpAt.new w
      rw [HBB.out] at this
      exact (this.say (fun a c => (ky_none a c).symm))
    · refine HH.out.only (S := fun _ => False) ⟨rfl, rfl, rfl, by simp, fun k hk _ => Below.heap_alloc _ _ _ hk⟩ (fun _ _ _ h => h)
    · exact (Below.refl _ _).alloc (by have := HBB.out; omega) _
    · have := HBB.out
      simp
      omega
  case round =>
    obtain ⟨k, hk, rfl, hmp, hla, hbl, hsz⟩ := hrel
    have HM := Hid.mk hmp
    have HA := Hid.mk hla
    have HB := Hid.mk hbl
    have HZ := Hid.mk hsz
    clear hmp hla hbl hsz
    by_cases hlt : k < n
    · have hi : (k : Int) < n := by omega
      have hw1 : IntKind.i64.wrap ((k : Int) + 1) = (k : Int) + 1 := by rw [IntKind.wrap_i64]; omega
      obtain ⟨a', ea, hc⟩ := HA.out.at k hlt
      subst ea
      have HT : Hid (xs.take (k + 1) = xs.take k ++ [xs.getD k 0]) := Hid.mk (by
        have hx := HL.out
        rw [List.take_succ_eq_append_getElem (by omega)]
        simp [List.getD, List.getElem?_eq_getElem (show k < xs.length by omega)])
      generalize xs.getD k 0 = x at *
      have HX := Hid.mk hi
      cases h1 : oneB x with
      | true =>
        have HP := Hid.mk (fun W => place_any W x)
        rw [pl_one h1] at HP
        obtain ⟨x0, st, W1, W2, r1, r2, r3, r4, hm2, hg2⟩ := HM.out.drew.inc (by have := mt_le (xs.take k); unfold maxLen; omega) (a := 1) (c := 0) (okI_of (by omega) (by omega)) (okI_of (by omega) (by omega))
        have HR1 := Hid.mk r1
        have HR2 := Hid.mk r2
        have HR3 := Hid.mk r3
        have HR4 := Hid.mk r4
        have hky := ky_one (xs.take k) x h1
        rw [← HT.out] at hky
        have HF : Hid (MpAt W2 B (mtN (xs.take (k + 1))) (kyP (xs.take (k + 1))) ∧ LAt W2 (some a') n xs ∧ Below B w W2 ∧ B < W2.heap.size) := Hid.mk (by
          have hs : wr.heap.size ≤ W2.heap.size := hg2.size
          refine ⟨?_, ?_, ?_, Nat.lt_of_lt_of_le HZ.out hs⟩
          · rw [hky.1]
            exact hm2.say hky.2
          · refine HA.out.only (S := fun q => q = B) ⟨hg2.os, hg2.tape, hg2.output, hg2.size, fun q hq hs => hg2.block q hq (fun e => hs (by cases e; rfl))⟩ (fun a e hlt' he => ?_)
            have hla0 := HH.out.2 (by omega)
            obtain ⟨a2, e2, hlt2, _⟩ := hla0
            cases e
            cases e2
            have := HBB.out
            omega
          · exact HB.out.drew.grown hg2 (by have := HB.out.size; have := HBB.out; show B ≤ wr.heap.size; omega) (fun q hq => by cases hq; omega))
        clear r1 r2 r3 r4 hm2 hg2 hky
        go_wp2_with (go_at_call 75; refine (HP.out _).mono ?_; rintro e w'' ⟨rfl, hw⟩; subst w'')
        refine wp_region_held_drew (S := fun _ => True) (by kernel_rfl) trivial (fun hH => ?_)
        change wpAnyH Tryz.prog Region.Mode.any _ _ _ 7 _ _ _
        refine takeH 0 27 (.map (some B)) rfl (by kernel_rfl) (by kernel_rfl) (by kernel_rfl) (by kernel_rfl) (fun _ _ _ h => h) (by kernel_rfl) (fun w hw => by kernel_rfl) trivial ?_
        simp only [List.setIfInBounds_toArray, List.set_cons_zero, List.set_cons_succ]
        refine takeH 1 28 (pr 1 0) rfl (by kernel_rfl) (by kernel_rfl) (by kernel_rfl) (by kernel_rfl) (fun _ _ _ h => h) (by kernel_rfl) (fun w hw => by kernel_rfl) trivial ?_
        simp only [List.setIfInBounds_toArray, List.set_cons_zero, List.set_cons_succ]
        refine stepH_two 2 4 (by kernel_rfl) ?_ ?_
        · refine opH_run 2 29 (.int .i64 x0) wr.drew rfl (by kernel_rfl) (by kernel_rfl) (exec_lookup (m := .tmp 27) (k := .tmp 28) rfl (by kernel_rfl) (by kernel_rfl) HR1.out) trivial ?_
          simp only [List.setIfInBounds_toArray, List.set_cons_zero, List.set_cons_succ]
          refine takeH 3 30 (.int .i64 (IntKind.i64.wrap (x0 + 1))) rfl (by kernel_rfl) (by kernel_rfl) (by kernel_rfl) (by kernel_rfl) (fun _ _ _ h => h) (by kernel_rfl) (fun w hw => by go_simp) trivial ?_
          simp only [List.setIfInBounds_toArray, List.set_cons_zero, List.set_cons_succ]
          refine stepH_run 4 31 (.tuple #[.int .i64 x0, goInt st]) W1 rfl (by kernel_rfl) (by kernel_rfl) (by kernel_rfl) (exec_entry (m := .tmp 27) (k := .tmp 28) rfl (by kernel_rfl) (by kernel_rfl) HR2.out) trivial ?_
          simp only [List.setIfInBounds_toArray, List.set_cons_zero, List.set_cons_succ]
          refine takeH 5 32 (goInt st) rfl (by kernel_rfl) (by kernel_rfl) (by kernel_rfl) (by kernel_rfl) (fun _ _ _ h => h) (by kernel_rfl) (fun w hw => by go_simp) trivial ?_
          simp only [List.setIfInBounds_toArray, List.set_cons_zero, List.set_cons_succ]
          refine stepH_one 6 (by kernel_rfl) ?_
          refine opH_store 6 W2 rfl (by kernel_rfl) (by kernel_rfl) (exec_estore (m := .tmp 27) (s := .tmp 32) (x := .tmp 30) rfl (by kernel_rfl) (by kernel_rfl) (by kernel_rfl) HR4.out) trivial ?_
          refine wpAnyH_done (by kernel_rfl) ?_ _
          clear hH
          go_wp2
          go_roundw
          case rel => exact ⟨k + 1, by omega, by go_num, HF.out.1, HF.out.2.1, HF.out.2.2.1, HF.out.2.2.2⟩
          case measure => simp [intOf]; omega
        · refine opH_run 4 31 (.tuple #[.int .i64 x0, goInt st]) W1 rfl (by kernel_rfl) (by kernel_rfl) (exec_entry (m := .tmp 27) (k := .tmp 28) rfl (by kernel_rfl) (by kernel_rfl) HR2.out) trivial ?_
          simp only [List.setIfInBounds_toArray, List.set_cons_zero, List.set_cons_succ]
          refine takeH 5 32 (goInt st) rfl (by kernel_rfl) (by kernel_rfl) (by kernel_rfl) (by kernel_rfl) (fun _ _ _ h => h) (by kernel_rfl) (fun w hw => by go_simp) trivial ?_
          simp only [List.setIfInBounds_toArray, List.set_cons_zero, List.set_cons_succ]
          refine stepH_run 2 29 (.int .i64 x0) W1 rfl (by kernel_rfl) (by kernel_rfl) (by kernel_rfl) (exec_lookup (m := .tmp 27) (k := .tmp 28) rfl (by kernel_rfl) (by kernel_rfl) HR3.out) trivial ?_
          simp only [List.setIfInBounds_toArray, List.set_cons_zero, List.set_cons_succ]
          refine takeH 3 30 (.int .i64 (IntKind.i64.wrap (x0 + 1))) rfl (by kernel_rfl) (by kernel_rfl) (by kernel_rfl) (by kernel_rfl) (fun _ _ _ h => h) (by kernel_rfl) (fun w hw => by go_simp) trivial ?_
          simp only [List.setIfInBounds_toArray, List.set_cons_zero, List.set_cons_succ]
          refine stepH_one 6 (by kernel_rfl) ?_
          refine opH_store 6 W2 rfl (by kernel_rfl) (by kernel_rfl) (exec_estore (m := .tmp 27) (s := .tmp 32) (x := .tmp 30) rfl (by kernel_rfl) (by kernel_rfl) (by kernel_rfl) HR4.out) trivial ?_
          refine wpAnyH_done (by kernel_rfl) ?_ _
          clear hH
          go_wp2
          go_roundw
          case rel => exact ⟨k + 1, by omega, by go_num, HF.out.1, HF.out.2.1, HF.out.2.2.1, HF.out.2.2.2⟩
          case measure => simp [intOf]; omega
      | false =>
        cases h2 : twoB x with
        | false =>
          have HP := Hid.mk (fun W => place_any W x)
          rw [pl_zero h1 h2] at HP
          have hky := ky_zero (xs.take k) x h1 h2
          rw [← HT.out] at hky
          have HF : Hid (MpAt wr B (mtN (xs.take (k + 1))) (kyP (xs.take (k + 1)))) := Hid.mk (by
            rw [hky.1]
            exact HM.out.say (fun a c => (hky.2 a c).symm))
          clear hky
          go_wp2_with (go_at_call 75; refine (HP.out _).mono ?_; rintro e w'' ⟨rfl, hw⟩; subst w'')
          go_roundw
          case rel => exact ⟨k + 1, by omega, by go_num, HF.out, HA.out, HB.out, HZ.out⟩
          case measure => simp [intOf]; omega
        | true =>
          have HP := Hid.mk (fun W => place_any W x)
          rw [pl_two h2] at HP
          have htn := twoN_lt h2
          obtain ⟨x0, st, W1, W2, r1, r2, r3, r4, hm2, hg2⟩ := HM.out.drew.inc (by have := mt_le (xs.take k); unfold maxLen; omega) (a := 2) (c := -1) (okI_of (by omega) (by omega)) (okI_of (by omega) (by omega))
          obtain ⟨y0, su, Z1, Z2, s1, s2, s3, s4, hm3, hg3⟩ := hm2.drew.inc (by have := mt_le (xs.take k); unfold maxLen; split <;> omega) (a := 2) (c := (twoN x : Int)) (okI_of (by omega) (by omega)) (okI_of (by omega) (by omega))
          have HR1 := Hid.mk r1
          have HR2 := Hid.mk r2
          have HR3 := Hid.mk r3
          have HR4 := Hid.mk r4
          have HS1 := Hid.mk s1
          have HS2 := Hid.mk s2
          have HS3 := Hid.mk s3
          have HS4 := Hid.mk s4
          have hky := ky_two (xs.take k) x h2
          rw [← HT.out] at hky
          have HF : Hid (MpAt Z2 B (mtN (xs.take (k + 1))) (kyP (xs.take (k + 1))) ∧ LAt Z2 (some a') n xs ∧ Below B w Z2 ∧ B < Z2.heap.size) := Hid.mk (by
            have hs : wr.heap.size ≤ W2.heap.size := hg2.size
            have hs3 : W2.heap.size ≤ Z2.heap.size := hg3.size
            have hz := HZ.out
            have hbs := HBB.out
            refine ⟨?_, ?_, ?_, by omega⟩
            · rw [hky.1]
              exact hm3.say hky.2
            · have hl2 : LAt W2 (some a') n xs := by
                refine HA.out.only (S := fun q => q = B) ⟨hg2.os, hg2.tape, hg2.output, hg2.size, fun q hq hs => hg2.block q hq (fun e => hs (by cases e; rfl))⟩ (fun a e hlt' he => ?_)
                obtain ⟨a2, e2, hlt2, _⟩ := HH.out.2 (by omega)
                cases e
                cases e2
                omega
              refine hl2.only (S := fun q => q = B) ⟨hg3.os, hg3.tape, hg3.output, hg3.size, fun q hq hs => hg3.block q hq (fun e => hs (by cases e; rfl))⟩ (fun a e hlt' he => ?_)
              obtain ⟨a2, e2, hlt2, _⟩ := HH.out.2 (by omega)
              cases e
              cases e2
              omega
            · have hb2 := HB.out.drew.grown hg2 (by show B ≤ wr.heap.size; omega) (fun q hq => by cases hq; omega)
              exact hb2.drew.grown hg3 (by show B ≤ W2.heap.size; omega) (fun q hq => by cases hq; omega))
          clear r1 r2 r3 r4 s1 s2 s3 s4 hm2 hg2 hm3 hg3 hky
          generalize (twoN x : Int) = tn at *
          go_wp2_with (go_at_call 75; refine (HP.out _).mono ?_; rintro e w'' ⟨rfl, hw⟩; subst w'')
          refine wp_region_held_drew (S := fun _ => True) (by kernel_rfl) trivial (fun hH => ?_)
          change wpAnyH Tryz.prog Region.Mode.any _ _ _ 7 _ _ _
          refine takeH 0 35 (.map (some B)) rfl (by kernel_rfl) (by kernel_rfl) (by kernel_rfl) (by kernel_rfl) (fun _ _ _ h => h) (by kernel_rfl) (fun w hw => by kernel_rfl) trivial ?_
          simp only [List.setIfInBounds_toArray, List.set_cons_zero, List.set_cons_succ]
          refine takeH 1 36 (pr 2 (-1)) rfl (by kernel_rfl) (by kernel_rfl) (by kernel_rfl) (by kernel_rfl) (fun _ _ _ h => h) (by kernel_rfl) (fun w hw => by kernel_rfl) trivial ?_
          simp only [List.setIfInBounds_toArray, List.set_cons_zero, List.set_cons_succ]
          refine stepH_two 2 4 (by kernel_rfl) ?_ ?_
          · refine opH_run 2 37 (.int .i64 x0) wr.drew rfl (by kernel_rfl) (by kernel_rfl) (exec_lookup (m := .tmp 35) (k := .tmp 36) rfl (by kernel_rfl) (by kernel_rfl) HR1.out) trivial ?_
            simp only [List.setIfInBounds_toArray, List.set_cons_zero, List.set_cons_succ]
            refine takeH 3 38 (.int .i64 (IntKind.i64.wrap (x0 + 1))) rfl (by kernel_rfl) (by kernel_rfl) (by kernel_rfl) (by kernel_rfl) (fun _ _ _ h => h) (by kernel_rfl) (fun w hw => by go_simp) trivial ?_
            simp only [List.setIfInBounds_toArray, List.set_cons_zero, List.set_cons_succ]
            refine stepH_run 4 39 (.tuple #[.int .i64 x0, goInt st]) W1 rfl (by kernel_rfl) (by kernel_rfl) (by kernel_rfl) (exec_entry (m := .tmp 35) (k := .tmp 36) rfl (by kernel_rfl) (by kernel_rfl) HR2.out) trivial ?_
            simp only [List.setIfInBounds_toArray, List.set_cons_zero, List.set_cons_succ]
            refine takeH 5 40 (goInt st) rfl (by kernel_rfl) (by kernel_rfl) (by kernel_rfl) (by kernel_rfl) (fun _ _ _ h => h) (by kernel_rfl) (fun w hw => by go_simp) trivial ?_
            simp only [List.setIfInBounds_toArray, List.set_cons_zero, List.set_cons_succ]
            refine stepH_one 6 (by kernel_rfl) ?_
            refine opH_store 6 W2 rfl (by kernel_rfl) (by kernel_rfl) (exec_estore (m := .tmp 35) (s := .tmp 40) (x := .tmp 38) rfl (by kernel_rfl) (by kernel_rfl) (by kernel_rfl) HR4.out) trivial ?_
            refine wpAnyH_done (by kernel_rfl) ?_ _
            clear hH
            go_wp2
            refine wp_region_held_drew (S := fun _ => True) (by kernel_rfl) trivial (fun hH => ?_)
            change wpAnyH Tryz.prog Region.Mode.any _ _ _ 8 _ _ _
            refine takeH 0 41 (.map (some B)) rfl (by kernel_rfl) (by kernel_rfl) (by kernel_rfl) (by kernel_rfl) (fun _ _ _ h => h) (by kernel_rfl) (fun w hw => by kernel_rfl) trivial ?_
            simp only [List.setIfInBounds_toArray, List.set_cons_zero, List.set_cons_succ]
            refine takeH 1 42 (.int .i64 tn) rfl (by kernel_rfl) (by kernel_rfl) (by kernel_rfl) (by kernel_rfl) (fun _ _ _ h => h) (by kernel_rfl) (fun w hw => by kernel_rfl) trivial ?_
            simp only [List.setIfInBounds_toArray, List.set_cons_zero, List.set_cons_succ]
            refine takeH 2 43 (pr 2 tn) rfl (by kernel_rfl) (by kernel_rfl) (by kernel_rfl) (by kernel_rfl) (fun _ _ _ h => h) (by kernel_rfl) (fun w hw => by kernel_rfl) trivial ?_
            simp only [List.setIfInBounds_toArray, List.set_cons_zero, List.set_cons_succ]
            refine stepH_two 3 5 (by kernel_rfl) ?_ ?_
            · refine opH_run 3 44 (.int .i64 y0) W2.drew rfl (by kernel_rfl) (by kernel_rfl) (exec_lookup (m := .tmp 41) (k := .tmp 43) rfl (by kernel_rfl) (by kernel_rfl) HS1.out) trivial ?_
              simp only [List.setIfInBounds_toArray, List.set_cons_zero, List.set_cons_succ]
              refine takeH 4 45 (.int .i64 (IntKind.i64.wrap (y0 + 1))) rfl (by kernel_rfl) (by kernel_rfl) (by kernel_rfl) (by kernel_rfl) (fun _ _ _ h => h) (by kernel_rfl) (fun w hw => by go_simp) trivial ?_
              simp only [List.setIfInBounds_toArray, List.set_cons_zero, List.set_cons_succ]
              refine stepH_run 5 46 (.tuple #[.int .i64 y0, goInt su]) Z1 rfl (by kernel_rfl) (by kernel_rfl) (by kernel_rfl) (exec_entry (m := .tmp 41) (k := .tmp 43) rfl (by kernel_rfl) (by kernel_rfl) HS2.out) trivial ?_
              simp only [List.setIfInBounds_toArray, List.set_cons_zero, List.set_cons_succ]
              refine takeH 6 47 (goInt su) rfl (by kernel_rfl) (by kernel_rfl) (by kernel_rfl) (by kernel_rfl) (fun _ _ _ h => h) (by kernel_rfl) (fun w hw => by go_simp) trivial ?_
              simp only [List.setIfInBounds_toArray, List.set_cons_zero, List.set_cons_succ]
              refine stepH_one 7 (by kernel_rfl) ?_
              refine opH_store 7 Z2 rfl (by kernel_rfl) (by kernel_rfl) (exec_estore (m := .tmp 41) (s := .tmp 47) (x := .tmp 45) rfl (by kernel_rfl) (by kernel_rfl) (by kernel_rfl) HS4.out) trivial ?_
              refine wpAnyH_done (by kernel_rfl) ?_ _
              clear hH
              go_wp2
              go_roundw
              case rel => exact ⟨k + 1, by omega, by go_num, HF.out.1, HF.out.2.1, HF.out.2.2.1, HF.out.2.2.2⟩
              case measure => simp [intOf]; omega
            · refine opH_run 5 46 (.tuple #[.int .i64 y0, goInt su]) Z1 rfl (by kernel_rfl) (by kernel_rfl) (exec_entry (m := .tmp 41) (k := .tmp 43) rfl (by kernel_rfl) (by kernel_rfl) HS2.out) trivial ?_
              simp only [List.setIfInBounds_toArray, List.set_cons_zero, List.set_cons_succ]
              refine takeH 6 47 (goInt su) rfl (by kernel_rfl) (by kernel_rfl) (by kernel_rfl) (by kernel_rfl) (fun _ _ _ h => h) (by kernel_rfl) (fun w hw => by go_simp) trivial ?_
              simp only [List.setIfInBounds_toArray, List.set_cons_zero, List.set_cons_succ]
              refine stepH_run 3 44 (.int .i64 y0) Z1 rfl (by kernel_rfl) (by kernel_rfl) (by kernel_rfl) (exec_lookup (m := .tmp 41) (k := .tmp 43) rfl (by kernel_rfl) (by kernel_rfl) HS3.out) trivial ?_
              simp only [List.setIfInBounds_toArray, List.set_cons_zero, List.set_cons_succ]
              refine takeH 4 45 (.int .i64 (IntKind.i64.wrap (y0 + 1))) rfl (by kernel_rfl) (by kernel_rfl) (by kernel_rfl) (by kernel_rfl) (fun _ _ _ h => h) (by kernel_rfl) (fun w hw => by go_simp) trivial ?_
              simp only [List.setIfInBounds_toArray, List.set_cons_zero, List.set_cons_succ]
              refine stepH_one 7 (by kernel_rfl) ?_
              refine opH_store 7 Z2 rfl (by kernel_rfl) (by kernel_rfl) (exec_estore (m := .tmp 41) (s := .tmp 47) (x := .tmp 45) rfl (by kernel_rfl) (by kernel_rfl) (by kernel_rfl) HS4.out) trivial ?_
              refine wpAnyH_done (by kernel_rfl) ?_ _
              clear hH
              go_wp2
              go_roundw
              case rel => exact ⟨k + 1, by omega, by go_num, HF.out.1, HF.out.2.1, HF.out.2.2.1, HF.out.2.2.2⟩
              case measure => simp [intOf]; omega
          · refine opH_run 4 39 (.tuple #[.int .i64 x0, goInt st]) W1 rfl (by kernel_rfl) (by kernel_rfl) (exec_entry (m := .tmp 35) (k := .tmp 36) rfl (by kernel_rfl) (by kernel_rfl) HR2.out) trivial ?_
            simp only [List.setIfInBounds_toArray, List.set_cons_zero, List.set_cons_succ]
            refine takeH 5 40 (goInt st) rfl (by kernel_rfl) (by kernel_rfl) (by kernel_rfl) (by kernel_rfl) (fun _ _ _ h => h) (by kernel_rfl) (fun w hw => by go_simp) trivial ?_
            simp only [List.setIfInBounds_toArray, List.set_cons_zero, List.set_cons_succ]
            refine stepH_run 2 37 (.int .i64 x0) W1 rfl (by kernel_rfl) (by kernel_rfl) (by kernel_rfl) (exec_lookup (m := .tmp 35) (k := .tmp 36) rfl (by kernel_rfl) (by kernel_rfl) HR3.out) trivial ?_
            simp only [List.setIfInBounds_toArray, List.set_cons_zero, List.set_cons_succ]
            refine takeH 3 38 (.int .i64 (IntKind.i64.wrap (x0 + 1))) rfl (by kernel_rfl) (by kernel_rfl) (by kernel_rfl) (by kernel_rfl) (fun _ _ _ h => h) (by kernel_rfl) (fun w hw => by go_simp) trivial ?_
            simp only [List.setIfInBounds_toArray, List.set_cons_zero, List.set_cons_succ]
            refine stepH_one 6 (by kernel_rfl) ?_
            refine opH_store 6 W2 rfl (by kernel_rfl) (by kernel_rfl) (exec_estore (m := .tmp 35) (s := .tmp 40) (x := .tmp 38) rfl (by kernel_rfl) (by kernel_rfl) (by kernel_rfl) HR4.out) trivial ?_
            refine wpAnyH_done (by kernel_rfl) ?_ _
            clear hH
            go_wp2
            refine wp_region_held_drew (S := fun _ => True) (by kernel_rfl) trivial (fun hH => ?_)
            change wpAnyH Tryz.prog Region.Mode.any _ _ _ 8 _ _ _
            refine takeH 0 41 (.map (some B)) rfl (by kernel_rfl) (by kernel_rfl) (by kernel_rfl) (by kernel_rfl) (fun _ _ _ h => h) (by kernel_rfl) (fun w hw => by kernel_rfl) trivial ?_
            simp only [List.setIfInBounds_toArray, List.set_cons_zero, List.set_cons_succ]
            refine takeH 1 42 (.int .i64 tn) rfl (by kernel_rfl) (by kernel_rfl) (by kernel_rfl) (by kernel_rfl) (fun _ _ _ h => h) (by kernel_rfl) (fun w hw => by kernel_rfl) trivial ?_
            simp only [List.setIfInBounds_toArray, List.set_cons_zero, List.set_cons_succ]
            refine takeH 2 43 (pr 2 tn) rfl (by kernel_rfl) (by kernel_rfl) (by kernel_rfl) (by kernel_rfl) (fun _ _ _ h => h) (by kernel_rfl) (fun w hw => by kernel_rfl) trivial ?_
            simp only [List.setIfInBounds_toArray, List.set_cons_zero, List.set_cons_succ]
            refine stepH_two 3 5 (by kernel_rfl) ?_ ?_
            · refine opH_run 3 44 (.int .i64 y0) W2.drew rfl (by kernel_rfl) (by kernel_rfl) (exec_lookup (m := .tmp 41) (k := .tmp 43) rfl (by kernel_rfl) (by kernel_rfl) HS1.out) trivial ?_
              simp only [List.setIfInBounds_toArray, List.set_cons_zero, List.set_cons_succ]
              refine takeH 4 45 (.int .i64 (IntKind.i64.wrap (y0 + 1))) rfl (by kernel_rfl) (by kernel_rfl) (by kernel_rfl) (by kernel_rfl) (fun _ _ _ h => h) (by kernel_rfl) (fun w hw => by go_simp) trivial ?_
              simp only [List.setIfInBounds_toArray, List.set_cons_zero, List.set_cons_succ]
              refine stepH_run 5 46 (.tuple #[.int .i64 y0, goInt su]) Z1 rfl (by kernel_rfl) (by kernel_rfl) (by kernel_rfl) (exec_entry (m := .tmp 41) (k := .tmp 43) rfl (by kernel_rfl) (by kernel_rfl) HS2.out) trivial ?_
              simp only [List.setIfInBounds_toArray, List.set_cons_zero, List.set_cons_succ]
              refine takeH 6 47 (goInt su) rfl (by kernel_rfl) (by kernel_rfl) (by kernel_rfl) (by kernel_rfl) (fun _ _ _ h => h) (by kernel_rfl) (fun w hw => by go_simp) trivial ?_
              simp only [List.setIfInBounds_toArray, List.set_cons_zero, List.set_cons_succ]
              refine stepH_one 7 (by kernel_rfl) ?_
              refine opH_store 7 Z2 rfl (by kernel_rfl) (by kernel_rfl) (exec_estore (m := .tmp 41) (s := .tmp 47) (x := .tmp 45) rfl (by kernel_rfl) (by kernel_rfl) (by kernel_rfl) HS4.out) trivial ?_
              refine wpAnyH_done (by kernel_rfl) ?_ _
              clear hH
              go_wp2
              go_roundw
              case rel => exact ⟨k + 1, by omega, by go_num, HF.out.1, HF.out.2.1, HF.out.2.2.1, HF.out.2.2.2⟩
              case measure => simp [intOf]; omega
            · refine opH_run 5 46 (.tuple #[.int .i64 y0, goInt su]) Z1 rfl (by kernel_rfl) (by kernel_rfl) (exec_entry (m := .tmp 41) (k := .tmp 43) rfl (by kernel_rfl) (by kernel_rfl) HS2.out) trivial ?_
              simp only [List.setIfInBounds_toArray, List.set_cons_zero, List.set_cons_succ]
              refine takeH 6 47 (goInt su) rfl (by kernel_rfl) (by kernel_rfl) (by kernel_rfl) (by kernel_rfl) (fun _ _ _ h => h) (by kernel_rfl) (fun w hw => by go_simp) trivial ?_
              simp only [List.setIfInBounds_toArray, List.set_cons_zero, List.set_cons_succ]
              refine stepH_run 3 44 (.int .i64 y0) Z1 rfl (by kernel_rfl) (by kernel_rfl) (by kernel_rfl) (exec_lookup (m := .tmp 41) (k := .tmp 43) rfl (by kernel_rfl) (by kernel_rfl) HS3.out) trivial ?_
              simp only [List.setIfInBounds_toArray, List.set_cons_zero, List.set_cons_succ]
              refine takeH 4 45 (.int .i64 (IntKind.i64.wrap (y0 + 1))) rfl (by kernel_rfl) (by kernel_rfl) (by kernel_rfl) (by kernel_rfl) (fun _ _ _ h => h) (by kernel_rfl) (fun w hw => by go_simp) trivial ?_
              simp only [List.setIfInBounds_toArray, List.set_cons_zero, List.set_cons_succ]
              refine stepH_one 7 (by kernel_rfl) ?_
              refine opH_store 7 Z2 rfl (by kernel_rfl) (by kernel_rfl) (exec_estore (m := .tmp 41) (s := .tmp 47) (x := .tmp 45) rfl (by kernel_rfl) (by kernel_rfl) (by kernel_rfl) HS4.out) trivial ?_
              refine wpAnyH_done (by kernel_rfl) ?_ _
              clear hH
              go_wp2
              go_roundw
              case rel => exact ⟨k + 1, by omega, by go_num, HF.out.1, HF.out.2.1, HF.out.2.2.1, HF.out.2.2.2⟩
              case measure => simp [intOf]; omega
    · have hi : ¬ (k : Int) < n := by omega
      have hi2 : (n : Int) ≤ k := by omega
      obtain rfl : k = n := by omega
      have hln := HM.out.len
      have HE : Hid (xs.take k = xs) := Hid.mk (by have := HL.out; exact List.take_of_length_le (by omega))
      rw [HE.out] at hln
      go_wp2
      go_ret
      exact ⟨rfl, by rw [HBB.out]; exact HB.out⟩
end Go.Proofs.YtehaoeclnmelhacGreat
