/-
  Maps in memory, whatever their elements are: what lies at a key, by a function.
-/
import Derived.Test.YtbahbhaoimabdaaBase
import Derived.Test.YtbahbhaoimabdaaProg
import Derived.Test.YtbahbhaoimabdaaChecked
import Derived.Maps.OwnSet
import Derived.Maps.Range
import Derived.StringKeys
namespace Go.Proofs.Ytbahbhaoimabdaa
open Go Go.Proofs Go.RowKit Go.Shelf
open Go.ChangeMaps (setBlock heap_setBlock_same heap_setBlock_other)
open Go.Maps (Keyed)

def rawE : Value → Option (DataW Value × List MemPlace) := fun v => some (.held v, [])
theorem rawE_inv {v : Value} {d : DataW Value} {ps : List MemPlace} (h : rawE v = some (d, ps)) : d = .held v := by
  simp [rawE] at h
  exact h.1.symm
/-- Block b is a map of n entries; f tells what lies at a key (of type k). -/
def MAt (W : World) (k : TypeId) (b n : Nat) (f : Lit → Option Value) : Prop :=
  ∃ D : DataW Value, W.ownsMap Try.prog k rawE b n D ∧ Maps.size D = n ∧ ∀ key kl, keyOf Try.prog k key = some kl → Maps.has D kl = (f kl).isSome ∧ ∀ v, f kl = some v → ∀ z, D.atKey kl z = .held v
theorem MAt.new (W : World) (k : TypeId) : MAt (W.alloc (.map #[] 0)) k W.heap.size 0 (fun _ => none) :=
  ⟨.map [], World.ownsMap_made W _ _ _, rfl, fun _ _ _ => ⟨rfl, fun _ h => by cases h⟩⟩
theorem MAt.lt {W : World} {k : TypeId} {b n : Nat} {f : Lit → Option Value} (h : MAt W k b n f) : b < W.heap.size := by
  obtain ⟨D, h, _⟩ := h
  exact h.lt
theorem MAt.kept {W W' : World} {k : TypeId} {b n : Nat} {f : Lit → Option Value} (h : MAt W k b n f) (hb : W'.heap[b]? = W.heap[b]?) : MAt W' k b n f := by
  obtain ⟨D, ⟨es, clock, h1, r⟩, h2, h3⟩ := h
  exact ⟨D, ⟨es, clock, hb.trans h1, r⟩, h2, h3⟩
theorem MAt.isMap {W : World} {k : TypeId} {b n : Nat} {f : Lit → Option Value} (h : MAt W k b n f) : ∃ es clock, W.heap[b]? = some (.map es clock) := by
  obtain ⟨D, ⟨es, clock, h1, r⟩, h2, h3⟩ := h
  exact ⟨es, clock, h1⟩
theorem MAt.say {W : World} {k : TypeId} {b n : Nat} {f g : Lit → Option Value} (h : MAt W k b n f) (e : ∀ key kl, keyOf Try.prog k key = some kl → f kl = g kl) : MAt W k b n g := by
  obtain ⟨D, h1, h2, h3⟩ := h
  refine ⟨D, h1, h2, fun key kl hk => ?_⟩
  rw [← e key kl hk]
  exact h3 key kl hk
theorem raw_size {W : World} {k : TypeId} {b n : Nat} {D : DataW Value} (h : W.ownsMap Try.prog k rawE b n D) : W.ownsMap Try.prog k rawE b (Maps.size D) D := by
  obtain ⟨es, clock, h1, h2, h3, rfl⟩ := h
  exact ⟨es, clock, h1, h2, by simp [Maps.size, length_sorted], rfl⟩
open Classical in
/-- f, but for one key. -/
noncomputable def updF (f : Lit → Option Value) (kl : Lit) (o : Option Value) : Lit → Option Value := fun l => if l = kl then o else f l
theorem upd_same (f : Lit → Option Value) (kl : Lit) (o : Option Value) : updF f kl o kl = o := by simp [updF]
theorem upd_other (f : Lit → Option Value) {kl l : Lit} (o : Option Value) (h : l ≠ kl) : updF f kl o l = f l := by simp [updF, h]
section
variable {W : World} {k t e : TypeId} {b n : Nat} {f : Lit → Option Value}
/-- 'm[k]'. -/
theorem MAt.look (h : MAt W k b n f) (K : Keyed Try.prog k) (ht : Try.prog.underlying t = some (.map k e)) {z : Value} (hz : (zeroValue e).run Try.prog W = .ok z W) {key : Value} {kl : Lit} (hkey : keyOf Try.prog k key = some kl) :
    (Instr.lookup t (.map (some b)) key false).run Try.prog W = .ok ((f kl).getD z) W := by
  obtain ⟨D, h1, h2, h3⟩ := h
  obtain ⟨v, ps, hr, hv⟩ := h1.lookup K ht hz (zd := .held z) (zp := []) rfl hkey
  obtain ⟨g1, g2⟩ := h3 key kl hkey
  have e := rawE_inv hv
  rw [hr]
  cases hf : f kl with
  | none =>
    rw [hf] at g1
    rw [Maps.atKey_of_not_has g1] at e
    cases e
    rfl
  | some u =>
    rw [g2 u hf] at e
    cases e
    rfl
/-- 'v, ok := m[k]'. -/
theorem MAt.look2 (h : MAt W k b n f) (K : Keyed Try.prog k) (ht : Try.prog.underlying t = some (.map k e)) {z : Value} (hz : (zeroValue e).run Try.prog W = .ok z W) {key : Value} {kl : Lit} (hkey : keyOf Try.prog k key = some kl) :
    (Instr.lookup t (.map (some b)) key true).run Try.prog W = .ok (.tuple #[(f kl).getD z, .bool (f kl).isSome]) W := by
  obtain ⟨D, h1, h2, h3⟩ := h
  obtain ⟨v, ps, hr, hv⟩ := h1.look_ok K ht hz (zd := .held z) (zp := []) rfl hkey
  obtain ⟨g1, g2⟩ := h3 key kl hkey
  have e := rawE_inv hv
  rw [hr, g1]
  cases hf : f kl with
  | none =>
    rw [hf] at g1
    rw [Maps.atKey_of_not_has g1] at e
    cases e
    rfl
  | some u =>
    rw [g2 u hf] at e
    cases e
    rfl
theorem MAt.len (h : MAt W k b n f) (ht : Try.prog.underlying t = some (.map k e)) (ty : TypeId) : (Builtin.len_ #[t] ty #[.map (some b)]).run Try.prog W = .ok (.int .i64 n) W := by
  obtain ⟨D, h1, h2, h3⟩ := h
  rw [h1.len ht, h2]
/-- 'm[k] = v'. -/
theorem MAt.put (h : MAt W k b n f) (K : Keyed Try.prog k) (ht : Try.prog.underlying t = some (.map k e)) (hn : n < maxLen) {key val : Value} {kl : Lit} (hkey : keyOf Try.prog k key = some kl) :
    ∃ o, (Instr.mapUpdate t (.map (some b)) key val).run Try.prog W = .ok () (setBlock W b o) ∧ MAt (setBlock W b o) k b (if (f kl).isSome = true then n else n + 1) (updF f kl (some val)) := by
  obtain ⟨D, h1, h2, h3⟩ := h
  have htidy := h1.tidy K
  have hkl := K.key hkey
  obtain ⟨w', hr, hown, ⟨es, clock, es', clock', hb, rfl⟩⟩ := h1.store K ht hn hkey (val := val) (d := .held val) (ps := []) rfl
  have hs := Maps.size_put (k := kl) htidy (.held val)
  rw [(h3 key kl hkey).1, h2] at hs
  refine ⟨_, hr, _, ?_, hs, fun key' kl' hk' => ?_⟩
  · rw [← hs]
    exact raw_size hown
  · by_cases e1 : kl' = kl
    · subst e1
      rw [upd_same]
      refine ⟨by rw [Maps.has_put_same htidy.isMap hkl]; rfl, fun v hv z => ?_⟩
      cases hv
      exact Maps.atKey_put_same htidy.isMap hkl _ z
    · rw [upd_other f _ e1]
      refine ⟨by rw [Maps.has_put_other e1]; exact (h3 key' kl' hk').1, fun v hv z => ?_⟩
      rw [Maps.atKey_put_other e1]
      exact (h3 key' kl' hk').2 v hv z
/-- 'delete(m, k)'. -/
theorem MAt.del (h : MAt W k b n f) (K : Keyed Try.prog k) (ht : Try.prog.underlying t = some (.map k e)) {key : Value} {kl : Lit} (hkey : keyOf Try.prog k key = some kl) (ty : TypeId) :
    ∃ o, (Builtin.delete_ #[t, k] ty #[.map (some b), key]).run Try.prog W = .ok (.tuple #[]) (setBlock W b o) ∧ MAt (setBlock W b o) k b (if (f kl).isSome = true then n - 1 else n) (updF f kl none) := by
  obtain ⟨D, h1, h2, h3⟩ := h
  have htidy := h1.tidy K
  obtain ⟨w', hr, hown, ⟨es, clock, es', clock', hb, rfl⟩⟩ := h1.drop K ht hkey ty
  have hs := Maps.size_del (k := kl) htidy
  rw [(h3 key kl hkey).1, h2] at hs
  have hs' : Maps.size (D.del kl) = if (f kl).isSome = true then n - 1 else n := by split at hs <;> split <;> simp_all <;> omega
  refine ⟨_, hr, _, ?_, hs', fun key' kl' hk' => ?_⟩
  · rw [← hs']
    exact raw_size hown
  · by_cases e1 : kl' = kl
    · subst e1
      rw [upd_same]
      exact ⟨by rw [Maps.has_del_same]; rfl, fun v hv => by cases hv⟩
    · rw [upd_other f _ e1]
      refine ⟨by rw [Maps.has_del_other e1]; exact (h3 key' kl' hk').1, fun v hv z => ?_⟩
      rw [Maps.atKey_del_other e1]
      exact (h3 key' kl' hk').2 v hv z
end
theorem keyed9 : Keyed Try.prog 9 := Maps.string_keyed Try.underlying9
theorem keyed3 : Keyed Try.prog 3 := Maps.int_keyed Try.underlying3
theorem heap_set_other {W : World} {b j : Nat} {o : Obj} (h : j ≠ b) : (setBlock W b o).heap[j]? = W.heap[j]? := by
  unfold setBlock
  simp [Ne.symm h]
theorem size_setBlock (W : World) (b : Nat) (o : Obj) : (setBlock W b o).heap.size = W.heap.size := by simp [setBlock]
theorem Only.setBlock {S : Nat → Prop} {a w : World} (h : Only S a w) {b : Nat} (hb : S b ∨ a.heap.size ≤ b) (o : Obj) : Only S a (setBlock w b o) :=
  h.trans (T := fun k => k = b) ⟨rfl, rfl, rfl, by simp [ChangeMaps.setBlock], fun k _ hs => heap_set_other hs⟩ (fun i e => by subst e; exact hb)
end Go.Proofs.Ytbahbhaoimabdaa
