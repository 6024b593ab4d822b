/-
  A row's copy; who waits, copied: maps.Copy.
-/
import Derived.Test.YtoediflikoedaaaLkKeys
import Derived.Maps.RangeWalk
namespace Go.Proofs.Ytoediflikoedaaa
open Go Go.Proofs Go.RowKit Go.Shelf Go.Maps
open Go.ChangeMaps (setBlock)
attribute [local go_sem] Oper.semAt_some
theorem Ly_one (L : List Lk) : ∀ u ∈ Ly L, u.oneCell' = true := by
  intro u hu
  obtain ⟨l, _, h⟩ := List.mem_flatMap.1 hu
  exact lkC_one l u h
theorem appendC {W : World} {g : Nat} {v : Value} {L : List Lk} (h : RwAt W g v L) (hL : L ≠ []) (hn : L.length ≤ 1000000) :
    ∃ v' g' W', (Builtin.append_ #[27, 27] 27 #[.slice none 0 0, v]).run Try.prog W = .ok v' W' ∧ v'.ownBlock = some g' ∧ W.heap.size ≤ g' ∧ RwAt W' g' v' L ∧ Below W.heap.size W W' := by
  obtain ⟨i0, hi, hz0, hz1, hz2⟩ := info31p
  obtain ⟨off, cap, cur, rfl, h2, h3, h4, h5, h6⟩ := h
  obtain ⟨v', W', hr, hown, hgr, _, _⟩ := run_append_own_at (P := Try.prog) W W.heap.size 27 27 31 i0 (lkV Lk.zero) 3 24 Try.underlying27 hi hz0 hz1 hz2 rfl (by decide) (.slice none 0 0) 0 [] (World.ownsRow_nil _ _ _ _) ⟨g, off, none⟩ L.length cap (Ly L) (Ly_length L) (fun j u hj => by rw [add_at, blk_cell h2]; exact h6 j u hj) (Ly_one L) (by unfold maxLen; omega) (by omega) (Nat.le_refl _)
  rw [Nat.zero_add, List.nil_append] at hown
  obtain ⟨g', e1, e2, e3⟩ := RwAt.of_owns hown hL
  exact ⟨v', g', W', hr, e1, e2, e3, hgr.os, hgr.tape, hgr.output, hgr.size, fun k hk => hgr.block k hk (fun e => by cases e)⟩
set_option maxRecDepth 100000 in
set_option maxHeartbeats 2000000 in
theorem rcopy_any (w : World) (b g : Nat) (v : Value) (L : List Lk) (hb : w.heap[b]? = some (.cells #[v] 76 (0, 0))) (h : RwAt w g v L) (hL : L ≠ []) (hn : L.length ≤ 1000000) :
    Calls Try.prog 47 #[ptV b] w fun e w' => ∃ b' v' g', e = .returned (ptV b') ∧ Hid (w'.heap[b']? = some (.cells #[v'] 76 (0, 0)) ∧ v'.ownBlock = some g' ∧ RwAt w' g' v' L ∧ w.heap.size ≤ b' ∧ w.heap.size ≤ g' ∧ g' ≠ b' ∧ g' < w'.heap.size ∧ b' < w'.heap.size ∧ Below w.heap.size w w') := by
  obtain ⟨v', g', W', hr, e1, e2, e3, hB⟩ := appendC h hL hn
  obtain ⟨off, cap, cur, rfl, h2, h3, h4, h5, h6⟩ := h
  have c0 : w.cell? ⟨b, 0, none⟩ = some (.slice (some ⟨g, off, none⟩) L.length cap) := by rw [blk_cell hb]; rfl
  have hgl : g' < W'.heap.size := by
    obtain ⟨_, _, _, _, e, _⟩ := e3
    exact lt_of_block e
  obtain ⟨ao', c', rfl⟩ : ∃ ao c, v' = .slice ao L.length c := by
    obtain ⟨o, c, _, e, _⟩ := e3
    exact ⟨_, _, e⟩
  have HF : Hid ((W'.alloc (.cells #[.slice ao' L.length c'] 76)).heap[W'.heap.size]? = some (.cells #[.slice ao' L.length c'] 76 (0, 0)) ∧ (Value.slice ao' L.length c').ownBlock = some g' ∧ RwAt (W'.alloc (.cells #[.slice ao' L.length c'] 76)) g' (.slice ao' L.length c') L ∧ w.heap.size ≤ W'.heap.size ∧ w.heap.size ≤ g' ∧ g' ≠ W'.heap.size ∧ g' < (W'.alloc (.cells #[.slice ao' L.length c'] 76)).heap.size ∧ W'.heap.size < (W'.alloc (.cells #[.slice ao' L.length c'] 76)).heap.size ∧ Below w.heap.size w (W'.alloc (.cells #[.slice ao' L.length c'] 76))) := Hid.mk ⟨blk_new W' _, e1, (Sh.At.kept (c := .ls 0 _ _) e3 (Below.heap_alloc _ _ _ hgl) : Sh.At _ _ (.ls 0 _ _)), hB.size, e2, by omega, by simp; omega, by simp, hB.alloc hB.size _⟩
  have HAP := Hid.mk hr
  clear h2 h3 h4 h5 h6 hb e1 e2 e3 hB hgl hr
  go_enter Try.func47, Try.ntmps47
  go_wp2_with (first
    | (at_builtin; refine wpList_append_known rfl _ _ _ rfl _ _ _ _ rfl rfl HAP.out ?_; simp only [Act.put, List.setIfInBounds_toArray, List.set_cons_zero, List.set_cons_succ])
    | go_in)
  go_ret
  exact ⟨_, _, _, rfl, HF⟩
theorem ranges_at {H : Type} {w w' : World} {P : Program} {k : TypeId} {R : Value → Option (DataW H × List MemPlace)} {b r n : Nat} {D : DataW H} {left : Lit → Bool} {cnt : Nat} (h : w.ranges P k R b r n D left cnt) (hb : w'.heap[b]? = w.heap[b]?) (hr : w'.heap[r]? = w.heap[r]?) : w'.ranges P k R b r n D left cnt := by
  obtain ⟨es, clock, since, seen, c0, h1, h2, h3, h4, h5, h6⟩ := h
  exact ⟨es, clock, since, seen, c0, hb.trans h1, h2, h3, h4, hr.trans h5, h6⟩
/-- What a round of 'range' hands out. -/
theorem ent_int {α : Type} {e : α → Value} {f : Int → Option α} {Dm : DataW Value} (hD : ∀ key kl, keyOf Try.prog 3 key = some kl → Maps.has Dm kl = (intF e f kl).isSome ∧ ∀ v, intF e f kl = some v → ∀ z, Dm.atKey kl z = .held v)
    (x : Int) (c : Value) (kl : Lit) (y : DataW Value × List MemPlace) (hk : keyOf Try.prog 3 (.int .i64 x) = some kl) (hr : rawE c = some y) (hat : ∀ zd, Dm.atKey kl zd = y.1) : kl = .int .i64 x ∧ (Lit.int .i64 x).wf = true ∧ ∃ a, f x = some a ∧ c = e a := by
  obtain ⟨x', ex, rfl, hwx⟩ := Maps.keyOf_int_inv Try.underlying3 hk
  cases ex
  refine ⟨rfl, hwx, ?_⟩
  obtain ⟨h1, h2⟩ := hD _ _ hk
  have hy := rawE_inv (show rawE c = some (y.1, y.2) from hr)
  cases hb : f x with
  | none =>
    have hf : intF e f (.int .i64 x) = none := by rw [intF_int, hb]; rfl
    rw [hf] at h1
    have a1 := hat (.held (.bool true))
    have a2 := hat (.held (.bool false))
    rw [Maps.atKey_of_not_has h1] at a1 a2
    rw [← a2] at a1
    cases a1
  | some a =>
    have hf : intF e f (.int .i64 x) = some (e a) := by rw [intF_int, hb]; rfl
    have := h2 _ hf (.held (.bool true))
    rw [hat, hy] at this
    cases this
    exact ⟨a, rfl, rfl⟩
theorem left_struck (left : Lit → Bool) (x z : Int) : (left (.int .i64 z) && !(Lit.int .i64 z).sameKey (.int .i64 x)) = (if z = x then false else left (.int .i64 z)) := by
  by_cases e : z = x
  · subst e
    simp [Lit.sameKey]
  · have : (Lit.int .i64 z).sameKey (.int .i64 x) = false := Maps.sameKey_ne (fun h => e (by cases h; rfl))
    simp [this, e]
set_option maxRecDepth 100000 in
set_option maxHeartbeats 4000000 in
/-- maps.Copy of who waits for what, into a new map. -/
theorem copym_any (w : World) (bd bs n : Nat) (f : Int → Option Lk) (hd : MAt w 3 bd 0 (intF lkV (fun _ => none))) (hs : MAt w 3 bs n (intF lkV f)) (hne : bd ≠ bs) (hn : n ≤ 1000000) :
    Calls Try.prog 46 #[.map (some bd), .map (some bs)] w fun e w' => e = .returned (.tuple #[]) ∧ Hid ((∃ m, m ≤ n ∧ MAt w' 3 bd m (intF lkV f)) ∧ Only (fun k => k = bd) w w') := by
  have hbd := hd.lt
  have hbs := hs.lt
  obtain ⟨Dm, hown, hsz, hD⟩ := hs
  have HENT := Hid.mk (ent_int hD)
  have HM0 : Hid (∀ W : World, W.heap[bd]? = w.heap[bd]? → MAt W 3 bd 0 (intF lkV (fun x => if Maps.has Dm (.int .i64 x) then none else f x))) := Hid.mk (fun W hW => by
    refine (hd.kept hW).say (fun key kl hk => ?_)
    obtain ⟨x, _, rfl, hw⟩ := Maps.keyOf_int_inv Try.underlying3 hk
    rw [intF_int, intF_int]
    have := (hD _ _ (key_int hw)).1
    rw [intF_int, Option.isSome_map] at this
    rw [this]
    cases f x <;> rfl)
  have HN : Hid (n ≤ 1000000 ∧ Maps.size Dm = n ∧ bd ≠ bs ∧ bd < w.heap.size ∧ bs < w.heap.size) := Hid.mk ⟨hn, hsz, hne, hbd, hbs⟩
  clear hD hd hn hsz
  go_enter Try.func46, Try.ntmps46
  go_wp2_with (first
    | (at_range; refine wpList_range_own _ rfl _ 52 rfl 3 31 keyed3 Try.underlying52 _ bs n _ rfl hown ?_; intro w0 hrg0 hg0 hs0)
    | go_in)
  go_frame
  have H0 : Hid (MAt w0 3 bd 0 (intF lkV (fun x => if Maps.has Dm (.int .i64 x) then none else f x)) ∧ Only (fun k => k = bd) w w0) := Hid.mk ⟨HM0.out w0 (hg0.block bd hbd (by simp)), hg0.os, hg0.tape, hg0.output, hg0.size, fun k hk _ => hg0.block k hk (by simp)⟩
  go_loopw [4, 5] (fun _ _ wr => ∃ (left : Lit → Bool) (cnt m : Nat), wr.ranges Try.prog 3 rawE bs w.heap.size n Dm left cnt ∧ Hid (MAt wr 3 bd m (intF lkV (fun x => if left (.int .i64 x) then none else f x)) ∧ m + cnt ≤ n ∧ Only (fun k => k = bd) w wr ∧ w.heap.size < wr.heap.size)) (fun _ _ wr => wr.rangeLeft bs w.heap.size)
  case atStart => exact ⟨_, _, 0, hrg0, Hid.mk ⟨H0.out.1, by rw [HN.out.2.1]; omega, H0.out.2, by omega⟩⟩
  case round =>
    obtain ⟨left, cnt, m, hrg, HI⟩ := hrel
    clear hrg0 hg0 hs0 H0 HM0
    go_wp2_with (first
      | (at_next; refine wpList_next_ranges _ rfl _ rfl 3 keyed3 rawE (Value.int .i64) (fun v : Value => v) (fun key kl hk => by obtain ⟨x, rfl, _⟩ := Maps.keyOf_int_inv Try.underlying3 hk; exact ⟨x, rfl⟩) (fun v y _ => ⟨v, rfl⟩) bs w.heap.size n _ _ _ rfl hrg ?_ ?_)
      | go_in)
    · intro hc0 hl0
      have HF : Hid ((∃ m, m ≤ n ∧ MAt wr 3 bd m (intF lkV f)) ∧ Only (fun k => k = bd) w wr) := Hid.mk ⟨⟨m, by have := HI.out.2.1; omega, HI.out.1.say (fun key kl hk => by
        obtain ⟨x, _, rfl, hw⟩ := Maps.keyOf_int_inv Try.underlying3 hk
        rw [intF_int, intF_int, hl0, if_neg (by simp)])⟩, HI.out.2.2.1⟩
      go_wp2
      go_end0
      exact ⟨rfl, HF⟩
    · intro x c kl yd yp w1 cnt1 hkx hlx hry hat hrg1 hlt hg1 hs1 hen
      obtain ⟨rfl, hwx, a, hfa, rfl⟩ := HENT.out x c kl (yd, yp) hkx hry hat
      have hbl := HN.out.2.2.2.1
      have hsw := HI.out.2.2.2
      have hM1 : MAt (w1.alloc (lkO a)) 3 bd m (intF lkV (fun x => if left (.int .i64 x) then none else f x)) := HI.out.1.kept (by
        rw [Below.heap_alloc _ _ _ (by omega)]
        exact hg1.block bd (by omega) (fun e => by cases e; omega))
      obtain ⟨o, p, hM2⟩ := hM1.put keyed3 Try.underlying52 (by have := HI.out.2.1; have := HN.out.1; unfold maxLen; omega) (key_int hwx) (val := lkV a)
      rw [intF_int, hlx, if_pos rfl] at hM2
      have hO1 : Only (fun k => k = bd) w (w1.alloc (lkO a)) := (HI.out.2.2.1.trans (⟨hg1.os, hg1.tape, hg1.output, hg1.size, fun k hk hne => hg1.block k hk (fun e => hne (by cases e; rfl))⟩ : Only (fun k => k = w.heap.size) wr w1) (fun k hk => .inr (by rw [hk]; exact Nat.le_refl _))).alloc _
      have hrg2 : (setBlock (w1.alloc (lkO a)) bd o).ranges Try.prog 3 rawE bs w.heap.size n Dm (fun z => left z && !z.sameKey (.int .i64 x)) cnt1 := ranges_at hrg1 (by
        rw [heap_set_other (by have := HN.out.2.2.1; omega), Below.heap_alloc _ _ _ (by have := HN.out.2.2.2.2; omega)]) (by
        rw [heap_set_other (by omega), Below.heap_alloc _ _ _ (by omega)])
      have HF : Hid (MAt (setBlock (w1.alloc (lkO a)) bd o) 3 bd (m + 1) (intF lkV (fun y => if (left (.int .i64 y) && !(Lit.int .i64 y).sameKey (.int .i64 x)) then none else f y)) ∧ (m + 1) + cnt1 ≤ n ∧ Only (fun k => k = bd) w (setBlock (w1.alloc (lkO a)) bd o) ∧ w.heap.size < (setBlock (w1.alloc (lkO a)) bd o).heap.size) := Hid.mk ⟨MAt.say hM2 (fun key kl hk => by
        obtain ⟨y, _, rfl, hw⟩ := Maps.keyOf_int_inv Try.underlying3 hk
        rw [intF_int, left_struck]
        by_cases e : y = x
        · subst e
          rw [upd_same, if_pos rfl, hfa]
          rfl
        · rw [upd_other _ _ (fun q => e (by cases q; rfl)), intF_int, if_neg e]), by have := HI.out.2.1; omega, hO1.setBlock (.inl rfl) o, by rw [size_setBlock]; simp; omega⟩
      have HRG := Hid.mk hrg
      have HLT := Hid.mk hlt
      unfold lkO lkV at *
      clear HI hM1 hM2 hO1 hfa hat hry hkx hlx hg1 hrg hlt HENT hown
      go_wp2
      go_roundw
      case rel => exact ⟨_, cnt1, m + 1, hrg2, HF⟩
      case measure => (rw [hrg2.left_eq, HRG.out.left_eq]; exact HLT.out)
end Go.Proofs.Ytoediflikoedaaa
