/-
  Those of the threads that do not wait: free.
-/
import Derived.Test.YtoediflikoedaaaLkBy
namespace Go.Proofs.Ytoediflikoedaaa
open Go Go.Proofs Go.RowKit Go.Shelf Go.Maps
open Go.ChangeMaps (setBlock)
attribute [local go_sem] Oper.semAt_some
section
variable {F : Nat → Prop} {w : World} {t : Nat} {D : Td}
def FrTo (w : World) (D : Td) (f : Int → Option (Value × List Int)) (n : Nat) (v : Value) (l : List Int) (w' : World) : Prop := w'.ownsRow w.heap.size 3 1 v l.length (Iy l) ∧ Below w.heap.size w w' ∧ (∀ th ∈ l, (Lit.int .i64 th).wf = true ∧ D.waits th = none) ∧ (∀ th, (Lit.int .i64 th).wf = true → (f th).isSome = true → D.waits th = none → th ∈ l) ∧ l.length ≤ n
set_option maxRecDepth 100000 in
set_option maxHeartbeats 8000000 in
theorem free_any (h : TbAt F w t D) (hbk n : Nat) (f : Int → Option (Value × List Int)) (hm : MAt w 3 hbk n (intF Prod.fst f)) (hn : n ≤ 1000000) : Calls Try.prog 40 #[ptV t, .map (some hbk)] w fun e w' => ∃ v l, e = .returned v ∧ Hid (FrTo w D f n v l w') := by
  have hbl := hm.lt
  obtain ⟨Dm, hown, hsz, hD⟩ := hm
  have HENT := Hid.mk (ent_int hD)
  have HHAS : Hid (∀ i : Int, (Lit.int .i64 i).wf = true → Maps.has Dm (.int .i64 i) = (f i).isSome) := Hid.mk (fun i hi => by rw [(hD _ _ (key_int hi)).1, intF_int, Option.isSome_map])
  have HT : Hid (∀ W, Below w.heap.size w W → W.cell? ⟨t, 2, none⟩ = some (.map D.wm) ∧ ∀ th, (Lit.int .i64 th).wf = true → (Instr.lookup 52 (.map D.wm) (.int .i64 th) true).run Try.prog W = .ok (.tuple #[lkV ((D.waits th).getD Lk.zero), .bool (D.waits th).isSome]) W) := Hid.mk (fun W hB => ⟨(h.below hB).cells.2.2, fun th hth => (h.below hB).lookW hth⟩)
  have HN : Hid (n ≤ 1000000 ∧ Maps.size Dm = n ∧ hbk < w.heap.size ∧ t < w.heap.size) := Hid.mk ⟨hn, hsz, hbl, h.top.2.1⟩
  clear h hD hn hsz hbl
  go_enter Try.func40, Try.ntmps40
  go_wp2_with (first
    | (at_range; refine wpList_range_own _ rfl _ 71 rfl 3 39 keyed3 Try.underlying71 _ hbk n _ rfl hown ?_; intro w0 hrg0 hg0 hs0)
    | go_in)
  go_frame
  have HB0 : Hid (Below w.heap.size w w0 ∧ w.heap.size < w0.heap.size) := Hid.mk ⟨⟨hg0.os, hg0.tape, hg0.output, hg0.size, fun k hk => hg0.block k hk (by simp)⟩, by omega⟩
  go_loopw [5, 6, 7, 8] (fun u _ _ _ wr => ∃ (left : Lit → Bool) (cnt : Nat) (L : List Int), wr.ranges Try.prog 3 rawE hbk w.heap.size n Dm left cnt ∧ Hid (wr.ownsRow (w.heap.size + 1) 3 1 u L.length (Iy L) ∧ Below w.heap.size w wr ∧ w.heap.size < wr.heap.size ∧ (∀ th ∈ L, (Lit.int .i64 th).wf = true ∧ D.waits th = none) ∧ (∀ th, (Lit.int .i64 th).wf = true → (f th).isSome = true → left (.int .i64 th) = false → D.waits th = none → th ∈ L) ∧ L.length + cnt ≤ n)) (fun _ _ _ _ wr => wr.rangeLeft hbk w.heap.size)
  case atStart =>
    refine ⟨_, _, [], hrg0, Hid.mk ⟨World.ownsRow_nil _ _ _ _, HB0.out.1, HB0.out.2, fun _ q => (by cases q), fun th hw hf hl _ => ?_, by rw [HN.out.2.1]; simp⟩⟩
    rw [HHAS.out th hw, hf] at hl
    cases hl
  case round =>
    obtain ⟨left, cnt, L, hrg, HI⟩ := hrel
    clear hrg0 hg0 hs0 HB0 hown
    go_wp2_with (first
      | (at_next; refine wpList_next_ranges _ rfl _ rfl 3 keyed3 rawE (Value.int .i64) (fun v : Value => v) (fun key kl hk => by obtain ⟨x, rfl, _⟩ := Maps.keyOf_int_inv Try.underlying3 hk; exact ⟨x, rfl⟩) (fun v y _ => ⟨v, rfl⟩) hbk w.heap.size n _ _ _ rfl hrg ?_ ?_)
      | go_in)
    · intro hc0 hl0
      have HF : Hid (FrTo w D f n u5 L wr) := Hid.mk ⟨owns_base HI.out.1 (by omega), HI.out.2.1, HI.out.2.2.2.1, fun th hw hf hd => HI.out.2.2.2.2.1 th hw hf (hl0 _) hd, by have := HI.out.2.2.2.2.2; omega⟩
      go_wp2
      go_ret
      exact ⟨_, L, rfl, HF⟩
    · intro x c kl yd yp w1 cnt1 hkx hlx hry hat hrg1 hlt hg1 hs1 hen
      obtain ⟨rfl, hwx, y, hy, rfl⟩ := HENT.out x c kl (yd, yp) hkx hry hat
      have hsw := HI.out.2.2.1
      have hB1 : Below w.heap.size w w1 := HI.out.2.1.trans ⟨hg1.os, hg1.tape, hg1.output, hg1.size, fun k hk => hg1.block k (by omega) (fun e => by have := Option.some.inj e; omega)⟩
      obtain ⟨d0, d1⟩ := HT.out w1 hB1
      have d1 := d1 x hwx
      have hO1 : w1.ownsRow (w.heap.size + 1) 3 1 u5 L.length (Iy L) := owns_at HI.out.1 (fun k hk => hg1.block k (own_lt HI.out.1 hk) (fun e => by
        have e1 := Option.some.inj e
        rcases HI.out.1.2 with ⟨q, _⟩ | ⟨g, _, _, q, hb, _⟩
        · rw [q] at hk; cases hk
        · rw [q] at hk
          have e2 : g = k := Option.some.inj hk
          omega))
      have htl := HN.out.2.2.2
      have HRG := Hid.mk hrg
      have HLT := Hid.mk hlt
      have hstr : ∀ z : Int, (left (.int .i64 z) && !(Lit.int .i64 z).sameKey (.int .i64 x)) = (if z = x then false else left (.int .i64 z)) := left_struck left x
      have hL := HI.out.2.2.2
      cases hw : D.waits x with
      | some l' =>
        rw [hw] at d1
        simp only [Option.getD_some, Option.isSome_some] at d1
        have hB2 : Below w.heap.size w (w1.alloc (lkO l')) := hB1.alloc hB1.size _
        have hrg2 : (w1.alloc (lkO l')).ranges Try.prog 3 rawE hbk w.heap.size n Dm (fun z => left z && !z.sameKey (.int .i64 x)) cnt1 := ranges_at hrg1 (Below.heap_alloc _ _ _ (by have := HN.out; omega)) (Below.heap_alloc _ _ _ (by omega))
        have HF : Hid ((w1.alloc (lkO l')).ownsRow (w.heap.size + 1) 3 1 u5 L.length (Iy L) ∧ Below w.heap.size w (w1.alloc (lkO l')) ∧ w.heap.size < (w1.alloc (lkO l')).heap.size ∧ (∀ th ∈ L, (Lit.int .i64 th).wf = true ∧ D.waits th = none) ∧ (∀ th, (Lit.int .i64 th).wf = true → (f th).isSome = true → (left (.int .i64 th) && !(Lit.int .i64 th).sameKey (.int .i64 x)) = false → D.waits th = none → th ∈ L) ∧ L.length + cnt1 ≤ n) := Hid.mk ⟨hO1.alloc _, hB2, by simp; omega, hL.1, fun th hwf hf hl hd => by
          rw [hstr] at hl
          by_cases e : th = x
          · subst e; rw [hw] at hd; cases hd
          · rw [if_neg e] at hl; exact hL.2.1 th hwf hf hl hd, by have := hL.2.2; omega⟩
        clear HI hL hO1 hB1 hB2 hrg hlt hrg1 hg1 hs1 hat hry hkx hlx hstr HT hsw
        unfold lkO lkV at *
        go_wp2
        go_roundw
        case rel => exact ⟨_, cnt1, L, hrg2, HF⟩
        case measure => (rw [hrg2.left_eq, HRG.out.left_eq]; exact HLT.out)
      | none =>
        rw [hw] at d1
        simp only [Option.getD_none, Option.isSome_none] at d1
        have hs2 : (w1.alloc (lkO Lk.zero)).heap.size = w1.heap.size + 1 := by simp
        obtain ⟨v', W', p1, ho, hO, hv, g', hg'⟩ := appendI (w1.alloc (lkO Lk.zero)) (w.heap.size + 1) u5 L x (hO1.alloc _) (by omega) (by have := hL.2.2; have := HN.out.1; omega)
        have hOb : Below (w.heap.size + 1) (w1.alloc (lkO Lk.zero)) W' := hO.below (by omega) (fun k hk => by
          rcases hO1.2 with ⟨q, _⟩ | ⟨g, _, _, q, hb, _⟩
          · rw [q] at hk; cases hk
          · rw [q] at hk; cases hk; exact hb)
        have hrg2 : W'.ranges Try.prog 3 rawE hbk w.heap.size n Dm (fun z => left z && !z.sameKey (.int .i64 x)) cnt1 := ranges_at hrg1 ((hOb.block _ (by have := HN.out; omega)).trans (Below.heap_alloc _ _ _ (by have := HN.out; omega))) ((hOb.block _ (by omega)).trans (Below.heap_alloc _ _ _ (by omega)))
        have HF : Hid (W'.ownsRow (w.heap.size + 1) 3 1 v' (L ++ [x]).length (Iy (L ++ [x])) ∧ Below w.heap.size w W' ∧ w.heap.size < W'.heap.size ∧ (∀ th ∈ L ++ [x], (Lit.int .i64 th).wf = true ∧ D.waits th = none) ∧ (∀ th, (Lit.int .i64 th).wf = true → (f th).isSome = true → (left (.int .i64 th) && !(Lit.int .i64 th).sameKey (.int .i64 x)) = false → D.waits th = none → th ∈ L ++ [x]) ∧ (L ++ [x]).length + cnt1 ≤ n) := Hid.mk ⟨ho, (hB1.alloc hB1.size _).trans (hOb.mono (by omega)), by have := hO.size; omega, fun th hth => by
          rcases List.mem_append.1 hth with q | q
          · exact hL.1 th q
          · rw [List.mem_singleton.1 q]; exact ⟨hwx, hw⟩, fun th hwf hf hl hd => by
          rw [hstr] at hl
          by_cases e : th = x
          · rw [e]; simp
          · rw [if_neg e] at hl; exact List.mem_append.2 (.inl (hL.2.1 th hwf hf hl hd)), by have := hL.2.2; simp; omega⟩
        have HAP := Hid.mk p1
        rw [hs2] at HAP
        clear HI hL hO1 hB1 hrg hlt hrg1 hg1 hs1 hat hry hkx hlx hstr HT ho hO hv hg' hOb p1 hs2 hsw
        unfold lkO lkV Lk.zero at *
        go_wp2_with (first
          | (at_builtin; refine wpList_append_known rfl _ _ _ rfl _ _ _ _ rfl rfl HAP.out ?_; simp only [Act.put, List.setIfInBounds_toArray, List.set_cons_zero, List.set_cons_succ])
          | go_in)
        go_roundw
        case rel => exact ⟨_, cnt1, L ++ [x], hrg2, HF⟩
        case measure => (rw [hrg2.left_eq, HRG.out.left_eq]; exact HLT.out)
end
end Go.Proofs.Ytoediflikoedaaa
