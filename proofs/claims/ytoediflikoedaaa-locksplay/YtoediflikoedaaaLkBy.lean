/-
  The things that each thread holds: byThread.
-/
import Derived.Test.YtoediflikoedaaaLkHas
namespace Go.Proofs.Ytoediflikoedaaa
open Go Go.Proofs Go.RowKit Go.Shelf Go.Maps
open Go.ChangeMaps (setBlock)
attribute [local go_sem] Oper.semAt_some
/-- The rows by thread, while they are made; X: blocks of others. -/
structure ByI (w : World) (hbk : Nat) (X : Nat → Prop) (T : Nat) (wr : World) (f : Int → Option (Value × List Int)) : Prop where
  at' : ∃ F n, HsAt F wr hbk n f ∧ n ≤ T ∧ ∀ k, F k → w.heap.size ≤ k ∧ k < wr.heap.size ∧ ¬ X k
  len : ∀ i, (rowL f i).length ≤ T
  wf : ∀ i, ∀ z ∈ rowL f i, (Lit.int .i64 z).wf = true
  below : Below w.heap.size w wr
theorem ByI.step {w : World} {hbk : Nat} {X X' S : Nat → Prop} {T : Nat} {wr wr' : World} {f : Int → Option (Value × List Int)} (h : ByI w hbk X T wr f) (hO : Only S wr wr') (hS : ∀ k, S k → X k ∧ w.heap.size ≤ k) (hX : ∀ k, k < wr.heap.size → X' k → X k) : ByI w hbk X' T wr' f := by
  obtain ⟨F, n, h1, h2, h3⟩ := h.at'
  refine ⟨⟨F, n, h1.only hO (fun k hk _ hs => (h3 k hk).2.2 (hS k hs).1), h2, fun k hk => ⟨(h3 k hk).1, Nat.lt_of_lt_of_le (h3 k hk).2.1 hO.size, fun q => (h3 k hk).2.2 (hX k (h3 k hk).2.1 q)⟩⟩, h.len, h.wf, h.below.trans (hO.below h.below.size (fun k hk => (hS k hk).2))⟩
theorem ByI.add {w : World} {hbk : Nat} {X : Nat → Prop} {T : Nat} {wr : World} {f : Int → Option (Value × List Int)} (h : ByI w hbk X T wr f) (hX : ∀ k, X k → k < wr.heap.size) (hT : T ≤ 1000000) {i x : Int} (hi : (Lit.int .i64 i).wf = true) (hx : (Lit.int .i64 x).wf = true) :
    (Instr.lookup 71 (.map (some hbk)) (.int .i64 i) false).run Try.prog wr = .ok (rowV f i) wr ∧ ∃ v' W', (Builtin.append_ #[39, 39] 39 #[rowV f i, .slice (some ⟨wr.heap.size, 0, none⟩) 1 1]).run Try.prog (wr.alloc (.cells #[.int .i64 x] 3)) = .ok v' W' ∧ ∃ o, (Instr.mapUpdate 71 (.map (some hbk)) (.int .i64 i) v').run Try.prog W' = .ok () (setBlock W' hbk o) ∧
      Hid (ByI w hbk X (T + 1) (setBlock W' hbk o) (updC f i (some (v', rowL f i ++ [x]))) ∧ ∀ k, k < wr.heap.size → (k < w.heap.size ∨ X k) → (setBlock W' hbk o).heap[k]? = wr.heap[k]?) := by
  obtain ⟨F, n, h1, h2, h3⟩ := h.at'
  refine ⟨h1.look hi, ?_⟩
  obtain ⟨v', W', p1, _, _, o, p2, HQ⟩ := h1.add hi x (by omega) (by have := h.len i; omega)
  obtain ⟨⟨n', hn', hA⟩, hO⟩ := HQ.out
  refine ⟨v', W', p1, o, p2, Hid.mk ⟨⟨⟨fun k => Grown F wr k ∧ k < (setBlock W' hbk o).heap.size, n', hA.mono (fun k hk q => ⟨q, hk⟩), by omega, fun k hk => ?_⟩, fun j => ?_, fun j z hz => ?_, ?_⟩, fun k hk hkx => ?_⟩⟩
  · rcases hk.1 with q | q
    · exact ⟨(h3 k q).1, hk.2, (h3 k q).2.2⟩
    · exact ⟨Nat.le_trans h.below.size q, hk.2, fun r => by have := hX k r; omega⟩
  · rw [rowL_upd]
    split
    · have := h.len i; simp; omega
    · have := h.len j; omega
  · rw [rowL_upd] at hz
    split at hz
    · rcases List.mem_append.1 hz with q | q
      · exact h.wf i z q
      · rw [List.mem_singleton.1 q]; exact hx
    · exact h.wf j z hz
  · exact h.below.trans (hO.below h.below.size (fun k hk => (h3 k hk).1))
  · refine hO.block k hk (fun q => ?_)
    rcases hkx with r | r
    · have := (h3 k q).1; omega
    · exact (h3 k q).2.2 r
def ByTo (w : World) (D : Td) (T hbk : Nat) (w' : World) : Prop := ∃ f, ByI w hbk (fun _ => False) T w' f ∧ ∀ th tg, (Lit.int .i64 tg).wf = true → D.abs.holds th tg = true → tg ∈ rowL f th
section
variable {F : Nat → Prop} {w : World} {t : Nat} {D : Td}
theorem mul_step {c c1 B : Nat} (h : c1 < c) : c1 * B + B ≤ c * B := by
  have : (c1 + 1) * B ≤ c * B := Nat.mul_le_mul_right B h
  rwa [Nat.add_mul, Nat.one_mul] at this
set_option maxRecDepth 100000 in
set_option maxHeartbeats 8000000 in
theorem byth_any (h : TbAt F w t D) (hM : D.Made) {B : Nat} (hB : ∀ i x, D.held i = some x → x.S.length ≤ B) (hBT : D.nh * B ≤ 1000000) : Calls Try.prog 39 #[ptV t] w fun e w' => ∃ hbk, e = .returned (.map (some hbk)) ∧ Hid (ByTo w D (D.nh * B) hbk w') := by
  obtain ⟨hmb, _, _, hhm, _, _⟩ := hM
  have hmh := h.hmapAt
  rw [hhm] at hmh
  obtain ⟨Dm, hown0, hsz, hD⟩ := (show MAt w 3 hmb D.nh _ from hmh)
  have hml := (h.hown hhm).2.1
  have HENT := Hid.mk (ent_int hD)
  have HHAS : Hid (∀ i : Int, (Lit.int .i64 i).wf = true → Maps.has Dm (.int .i64 i) = (D.held i).isSome) := Hid.mk (fun i hi => by rw [(hD _ _ (key_int hi)).1, intF_int, Option.isSome_map])
  obtain ⟨w1, hw1⟩ : ∃ w1, w1 = w.alloc (.map #[] 0) := ⟨_, rfl⟩
  have hB1 : Below w.heap.size w w1 := by rw [hw1]; exact (Below.refl _ _).alloc (Nat.le_refl _) _
  have hs1 : w1.heap.size = w.heap.size + 1 := by rw [hw1]; simp
  have c0 := (h.below hB1).cells.1
  rw [hhm] at c0
  have r1 : ∀ ty, (Instr.makeMap ty none).run Try.prog w = .ok (.map (some w.heap.size)) w1 := fun ty => by rw [run_makeMap, hw1]
  have hown : w1.ownsMap Try.prog 3 rawE hmb D.nh Dm := own_kept hown0 (hB1.block hmb hml)
  have HM1 : Hid (MAt w1 3 w.heap.size 0 (fun _ => none)) := Hid.mk (by rw [hw1]; exact MAt.new w 3)
  have HSET : Hid (∀ i x, D.held i = some x → x.S.length ≤ B ∧ ∀ W, Below w.heap.size w W → W.cell? ⟨x.b, 0, none⟩ = some (.map (some x.m)) ∧ StAt W (some x.m) x.S ∧ x.m < w.heap.size) := Hid.mk (fun i x hi => ⟨hB i x hi, fun W hW => by
    obtain ⟨⟨_, _, hb⟩, _, _, hs⟩ := (h.below hW).hx hi
    exact ⟨by rw [blk_cell hb]; rfl, hs, (h.hx hi).2.2.1⟩⟩)
  have HN : Hid (D.nh * B ≤ 1000000 ∧ Maps.size Dm = D.nh ∧ hmb < w.heap.size ∧ w1.heap.size = w.heap.size + 1 ∧ Below w.heap.size w w1) := Hid.mk ⟨hBT, hsz, hml, hs1, hB1⟩
  have HHOLD : Hid (∀ th tg, D.abs.holds th tg = true → ∃ x, D.held tg = some x ∧ th ∈ x.S) := Hid.mk (fun th tg q => by
    obtain ⟨x, hx⟩ := holds_some q
    refine ⟨x, hx, ?_⟩
    unfold Ta.holds at q
    rw [abs_at hx] at q
    simpa [holdB] using q)
  clear h hmh hD hB hBT hown0 hhm hw1 hml hsz hs1 hB1
  go_enter Try.func39, Try.ntmps39
  go_wp2_with (first
    | (at_range; refine wpList_range_own _ rfl _ 50 rfl 3 60 keyed3 Try.underlying50 _ hmb D.nh _ rfl hown ?_; intro w0 hrg0 hg0 hs0)
    | go_in)
  go_frame
  have H0 : Hid (ByI w w.heap.size (fun k => k = w1.heap.size) (0 : Nat) w0 (fun _ => none) ∧ w1.heap.size < w0.heap.size) := Hid.mk (by
    have hn := HN.out
    refine ⟨⟨⟨fun k => k = w.heap.size, 0, ⟨(HM1.out.kept (hg0.block _ (by omega) (by simp))).say (fun _ l _ => by unfold intF; split <;> rfl), rfl, fun i x q => (by cases q), fun i x g q => (by cases q), fun i j x y g q => (by cases q)⟩, Nat.le_refl _, fun k hk => by rw [hk]; exact ⟨Nat.le_refl _, by omega, by omega⟩⟩, fun i => Nat.le_refl _, fun i z hz => (by cases hz), ?_⟩, by omega⟩
    exact hn.2.2.2.2.trans ⟨hg0.os, hg0.tape, hg0.output, hg0.size, fun k hk => hg0.block k (by omega) (by simp)⟩)
  go_loopw [4, 5, 6] (fun _ _ _ wr => ∃ (left : Lit → Bool) (cnt : Nat), wr.ranges Try.prog 3 rawE hmb w1.heap.size D.nh Dm left cnt ∧ Hid (∃ f T, ByI w w.heap.size (fun k => k = w1.heap.size) T wr f ∧ T + cnt * B ≤ D.nh * B ∧ w1.heap.size < wr.heap.size ∧ ∀ th tg, (Lit.int .i64 tg).wf = true → left (.int .i64 tg) = false → D.abs.holds th tg = true → tg ∈ rowL f th)) (fun _ _ _ wr => wr.rangeLeft hmb w1.heap.size)
  case atStart =>
    refine ⟨_, _, hrg0, Hid.mk ⟨_, 0, H0.out.1, by rw [HN.out.2.1]; omega, H0.out.2, fun th tg hw hl hh => ?_⟩⟩
    obtain ⟨x, hx, _⟩ := HHOLD.out th tg hh
    rw [HHAS.out tg hw, hx] at hl
    cases hl
  case round =>
    obtain ⟨left, cnt, hrg, HI⟩ := hrel
    clear hrg0 H0 hg0 hs0 HM1 r1 c0 hown
    go_wp2_with (first
      | (at_next; refine wpList_next_ranges _ rfl _ rfl 3 keyed3 rawE (Value.int .i64) (fun v : Value => v) (fun key kl hk => by obtain ⟨x, rfl, _⟩ := Maps.keyOf_int_inv Try.underlying3 hk; exact ⟨x, rfl⟩) (fun v y _ => ⟨v, rfl⟩) hmb w1.heap.size D.nh _ _ _ rfl hrg ?_ ?_)
      | go_in)
    · intro hc0 hl0
      have HF : Hid (ByTo w D (D.nh * B) w.heap.size wr) := Hid.mk (by
        obtain ⟨f, T, h1, h2, h3, h4⟩ := HI.out
        obtain ⟨G, n, a1, a2, a3⟩ := h1.at'
        exact ⟨f, ⟨⟨G, n, a1, by omega, fun k hk => ⟨(a3 k hk).1, (a3 k hk).2.1, fun q => q⟩⟩, fun i => by have := h1.len i; omega, h1.wf, h1.below⟩, fun th tg hw hh => h4 th tg hw (hl0 _) hh⟩)
      go_wp2
      go_ret
      exact ⟨_, rfl, HF⟩
    · intro x c kl yd yp w2 cnt1 hkx hlx hry hat hrg1 hlt hg1 hs1 hen
      obtain ⟨rfl, hwx, hx, hhx, rfl⟩ := HENT.out x c kl (yd, yp) hkx hry hat
      obtain ⟨hSB, hSW⟩ := HSET.out x hx hhx
      have hB2 : Below w.heap.size w w2 := by
        obtain ⟨f, T, h1, _, _, _⟩ := HI.out
        exact h1.below.trans ⟨hg1.os, hg1.tape, hg1.output, hg1.size, fun k hk => hg1.block k (by have := h1.below.size; omega) (fun e => by cases e; have := HN.out.2.2.2.1; omega)⟩
      obtain ⟨d0, hst, hmlt⟩ := hSW w2 hB2
      obtain ⟨hRise, Dm2, hown2, hsz2, hD2⟩ := hst
      have HD2 : Hid (∀ (th : Int) (kl : Lit), keyOf Try.prog 3 (.int .i64 th) = some kl → kl = .int .i64 th ∧ (Lit.int .i64 th).wf = true) := Hid.mk (fun th kl hk => by
        obtain ⟨x', ex, rfl, hwx⟩ := Maps.keyOf_int_inv Try.underlying3 hk
        cases ex
        exact ⟨rfl, hwx⟩)
      have HH2 : Hid (∀ th ∈ hx.S, Maps.has Dm2 (.int .i64 th) = true) := Hid.mk (fun th hth => by rw [(hD2 _ _ (key_int (hRise.2 th hth))).1, setF_int, if_pos hth]; rfl)
      have HIN : Hid (∀ w3 : World, w2.grownBy w3 none → w3.heap.size = w2.heap.size + 1 → ∃ f T, ByI w w.heap.size (fun k => k = w1.heap.size ∨ k = w2.heap.size) T w3 f ∧ T + cnt * B ≤ D.nh * B ∧ ∀ th tg, (Lit.int .i64 tg).wf = true → left (.int .i64 tg) = false → D.abs.holds th tg = true → tg ∈ rowL f th) := Hid.mk (fun w3 hg3 hs3 => by
        obtain ⟨f, T, h1, h2, h3, h4⟩ := HI.out
        have hn := HN.out
        refine ⟨f, T, ?_, h2, h4⟩
        have s1 : ByI w w.heap.size (fun k => k = w1.heap.size) T w2 f := h1.step (S := fun k => k = w1.heap.size) ⟨hg1.os, hg1.tape, hg1.output, hg1.size, fun k hk hne => hg1.block k hk (fun e => hne (by cases e; rfl))⟩ (fun k hk => ⟨hk, by omega⟩) (fun k _ q => q)
        exact s1.step (S := fun _ => False) ⟨hg3.os, hg3.tape, hg3.output, hg3.size, fun k hk _ => hg3.block k hk (by simp)⟩ (fun k q => q.elim) (fun k hk q => q.elim (fun q => q) (fun q => by omega)))
      have HSZ : Hid (w1.heap.size < w2.heap.size ∧ hx.m < w.heap.size ∧ Maps.size Dm2 = hx.S.length ∧ hx.S.length ≤ B ∧ cnt1 < cnt) := Hid.mk ⟨by obtain ⟨f, T, h1, h2, h3, h4⟩ := HI.out; omega, hmlt, hsz2, hSB, hlt⟩
      have HRG := Hid.mk hrg
      have HRG1 := Hid.mk hrg1
      clear HI hB2 hRise hD2 hSW hat hry hkx hg1 hs1 hlt hrg hrg1 hmlt hsz2 hSB
      go_wp2_with (first
        | (at_range; refine wpList_range_own _ rfl _ 65 rfl 3 66 keyed3 Try.underlying65 _ hx.m hx.S.length _ rfl hown2 ?_; intro w3 hrg3 hg3 hs3)
        | go_in)
      go_frame
      have H3 := Hid.mk (HIN.out w3 hg3 hs3)
      have HG3 : Hid (w3.heap[hmb]? = w2.heap[hmb]? ∧ w3.heap[w1.heap.size]? = w2.heap[w1.heap.size]? ∧ w2.heap.size < w3.heap.size) := Hid.mk (by
        have hn := HN.out
        have hz := HSZ.out
        exact ⟨hg3.block _ (by omega) (by simp), hg3.block _ (by omega) (by simp), by omega⟩)
      clear HIN hg3 hs3 hown2
      go_loopw [6] (fun _ wr => ∃ (left2 : Lit → Bool) (cnt2 : Nat), wr.ranges Try.prog 3 rawE hx.m w2.heap.size hx.S.length Dm2 left2 cnt2 ∧ Hid (∃ f T, ByI w w.heap.size (fun k => k = w1.heap.size ∨ k = w2.heap.size) T wr f ∧ T + cnt1 * B + cnt2 ≤ D.nh * B ∧ w2.heap.size < wr.heap.size ∧ (∀ th tg, (Lit.int .i64 tg).wf = true → left (.int .i64 tg) = false → D.abs.holds th tg = true → tg ∈ rowL f th) ∧ (∀ th ∈ hx.S, left2 (.int .i64 th) = false → x ∈ rowL f th) ∧ wr.heap[hmb]? = w2.heap[hmb]? ∧ wr.heap[w1.heap.size]? = w2.heap[w1.heap.size]?)) (fun _ wr => wr.rangeLeft hx.m w2.heap.size)
      case atStart =>
        refine ⟨_, _, hrg3, Hid.mk ?_⟩
        obtain ⟨f, T, h1, h2, h3⟩ := H3.out
        have hz := HSZ.out
        have := mul_step (B := B) hz.2.2.2.2
        refine ⟨f, T, h1, by rw [hz.2.2.1]; omega, HG3.out.2.2, h3, fun th hth hl => ?_, HG3.out.1, HG3.out.2.1⟩
        rw [HH2.out th hth] at hl
        cases hl
      case round =>
        obtain ⟨left2, cnt2, hrg4, HJ⟩ := hrel
        clear hrg3 H3 HG3
        go_wp2_with (first
          | (at_next; refine wpList_next_ranges _ rfl _ rfl 3 keyed3 rawE (Value.int .i64) (fun v : Value => v) (fun key kl hk => by obtain ⟨x, rfl, _⟩ := Maps.keyOf_int_inv Try.underlying3 hk; exact ⟨x, rfl⟩) (fun v y _ => ⟨v, rfl⟩) hx.m w2.heap.size hx.S.length _ _ _ rfl hrg4 ?_ ?_)
          | go_in)
        · intro hc2 hl2
          have HF : Hid (∃ f T, ByI w w.heap.size (fun k => k = w1.heap.size) T wr f ∧ T + cnt1 * B ≤ D.nh * B ∧ w1.heap.size < wr.heap.size ∧ ∀ th tg, (Lit.int .i64 tg).wf = true → (left (.int .i64 tg) && !(Lit.int .i64 tg).sameKey (.int .i64 x)) = false → D.abs.holds th tg = true → tg ∈ rowL f th) := Hid.mk (by
            obtain ⟨f, T, h1, h2, h3, h4, h5, h6, h7⟩ := HJ.out
            have hz := HSZ.out
            refine ⟨f, T, h1.step (S := fun _ => False) (Only.refl _ _) (fun k q => q.elim) (fun k _ q => .inl q), by omega, by omega, fun th tg hw hl hh => ?_⟩
            rw [left_struck] at hl
            by_cases e : tg = x
            · subst e
              obtain ⟨y, hy, hm⟩ := HHOLD.out th tg hh
              rw [hhx] at hy
              cases hy
              exact h5 th hm (hl2 _)
            · rw [if_neg e] at hl
              exact h4 th tg hw hl hh)
          have hrgO : wr.ranges Try.prog 3 rawE hmb w1.heap.size D.nh Dm (fun z => left z && !z.sameKey (.int .i64 x)) cnt1 := ranges_at HRG1.out (by obtain ⟨f, T, h1, h2, h3, h4, h5, h6, h7⟩ := HJ.out; exact h6) (by obtain ⟨f, T, h1, h2, h3, h4, h5, h6, h7⟩ := HJ.out; exact h7)
          clear HJ hrg4 hc2 hl2
          go_wp2
          go_roundw
          case rel => exact ⟨_, cnt1, hrgO, HF⟩
          case measure => (rw [hrgO.left_eq, HRG.out.left_eq]; exact HSZ.out.2.2.2.2)
        · intro th c2 kl2 yd2 yp2 w4 cnt3 hk4 hl4 hry4 hat4 hrg5 hlt5 hg5 hs5 hen5
          obtain ⟨rfl, hwth⟩ := HD2.out th kl2 hk4
          obtain ⟨f, T, h1, h2, h3, h4, h5, h6, h7⟩ := HJ.out
          have hz := HSZ.out
          have hn := HN.out
          have s1 : ByI w w.heap.size (fun k => k = w1.heap.size ∨ k = w2.heap.size) T w4 f := h1.step (S := fun k => k = w2.heap.size) ⟨hg5.os, hg5.tape, hg5.output, hg5.size, fun k hk hne => hg5.block k hk (fun e => hne (by cases e; rfl))⟩ (fun k hk => ⟨.inr hk, by omega⟩) (fun k _ q => q)
          obtain ⟨lk, v', W', p1, o, p2, HA⟩ := s1.add (i := th) (x := x) (fun k hk => by rcases hk with q | q <;> omega) (by omega) hwth hwx
          have HAP := Hid.mk p1
          have HF : Hid (∃ f T, ByI w w.heap.size (fun k => k = w1.heap.size ∨ k = w2.heap.size) T (setBlock W' w.heap.size o) f ∧ T + cnt1 * B + cnt3 ≤ D.nh * B ∧ w2.heap.size < (setBlock W' w.heap.size o).heap.size ∧ (∀ th tg, (Lit.int .i64 tg).wf = true → left (.int .i64 tg) = false → D.abs.holds th tg = true → tg ∈ rowL f th) ∧ (∀ th' ∈ hx.S, (left2 (.int .i64 th') && !(Lit.int .i64 th').sameKey (.int .i64 th)) = false → x ∈ rowL f th') ∧ (setBlock W' w.heap.size o).heap[hmb]? = w2.heap[hmb]? ∧ (setBlock W' w.heap.size o).heap[w1.heap.size]? = w2.heap[w1.heap.size]?) := Hid.mk (by
            obtain ⟨a1, a2⟩ := HA.out
            have up : ∀ j z, z ∈ rowL f j → z ∈ rowL (updC f th (some (v', rowL f th ++ [x]))) j := fun j z hz => by
              rw [rowL_upd]
              split
              · rename_i e; subst e; exact List.mem_append.2 (.inl hz)
              · exact hz
            refine ⟨_, T + 1, a1, by omega, ?_, fun th' tg hw hl hh => up _ _ (h4 th' tg hw hl hh), fun th' hth hl => ?_, ?_, ?_⟩
            · obtain ⟨G, n, _, _, a3⟩ := a1.at'
              have e1 := a2 w2.heap.size (by omega) (.inr (.inr rfl))
              have e2 : (setBlock W' w.heap.size o).heap[w2.heap.size]? = w4.heap[w2.heap.size]? := e1
              rw [Array.getElem?_eq_getElem (show w2.heap.size < w4.heap.size by omega)] at e2
              exact (Array.getElem?_eq_some_iff.1 e2).1
            · rw [left_struck] at hl
              by_cases e : th' = th
              · subst e
                rw [rowL_upd, if_pos rfl]
                simp
              · rw [if_neg e] at hl
                exact up _ _ (h5 th' hth hl)
            · rw [a2 hmb (by omega) (.inl hn.2.2.1), hg5.block hmb (by omega) (fun e => by have := Option.some.inj e; omega), h6]
            · rw [a2 w1.heap.size (by omega) (.inr (.inl rfl)), hg5.block w1.heap.size (by omega) (fun e => by have := Option.some.inj e; omega), h7])
          have hrg6 : (setBlock W' w.heap.size o).ranges Try.prog 3 rawE hx.m w2.heap.size hx.S.length Dm2 (fun z => left2 z && !z.sameKey (.int .i64 th)) cnt3 := ranges_at hrg5 (HA.out.2 _ (by omega) (.inl hz.2.1)) (HA.out.2 _ (by omega) (.inr (.inr rfl)))
          have HRG4 := Hid.mk hrg4
          have HLT5 := Hid.mk hlt5
          clear HJ h1 h2 h3 h4 h5 h6 h7 hz hn s1 HA p1 hk4 hl4 hry4 hat4 hrg5 hlt5 hg5 hs5 hrg4
          go_wp2_with (first
            | (at_builtin; refine wpList_append_known rfl _ _ _ rfl _ _ _ _ rfl rfl HAP.out ?_; simp only [Act.put, List.setIfInBounds_toArray, List.set_cons_zero, List.set_cons_succ])
            | go_in)
          go_roundw
          case rel => exact ⟨_, cnt3, hrg6, HF⟩
          case measure => (rw [hrg6.left_eq, HRG4.out.left_eq]; exact HLT5.out)
end
end Go.Proofs.Ytoediflikoedaaa
