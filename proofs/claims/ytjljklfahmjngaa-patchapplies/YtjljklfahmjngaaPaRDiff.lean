/-
  The changes between two rows of bytes: the reference.
-/
import Derived.Test.YtjljklfahmjngaaPaRuns
import Derived.Test.YtjljklfahmjngaaPaGrow
namespace Go.Proofs.Ytjljklfahmjngaa
open Go Go.Proofs Go.RowKit Go.Shelf
attribute [local go_sem] Oper.semAt_some
theorem wp_region_but {P : Program} {ops : Array Oper} {Q : Exit → Act → World → Prop} {id : Nat} {a : Act} {w : World} (L : Nat) (S : World → Prop) (hm : P.follows .mixedOrders = true) (hS : S w.drew)
    (h : S w.drew → Butt P .any ops Q S L ops.size (Array.replicate ops.size false) a w.drew) : (Code.region id ops true).wp P Q a w := wp_region_any hm (any_of_butt _ _ _ _ (h hS))
theorem exec_index {ev : Operand → Value} {oi : Oper} {x i : Operand} {g m cap k : Nat} {W : World} (ho : oi.op = .indexAddr 23 x i) (hx : ev x = .slice (some ⟨g, 0, none⟩) m cap) (hi : ev i = .int .i64 k) (hk : k < m) : (execOp ev oi).run Try.prog W = .ok (.value (.pointer (some ⟨g, k * 3, none⟩))) W := by
  have h1 : (k : Int) < (m : Int) := by omega
  have e : (⟨g, 0, none⟩ : Addr).add (k * 3) = ⟨g, k * 3, none⟩ := by rw [add_at]; simp
  unfold execOp
  rw [ho]
  simp only [hx, hi]
  go_simp
theorem exec_field {ev : Operand → Value} {oi : Oper} {x : Operand} {g o : Nat} {W : World} (ho : oi.op = .fieldAddr 31 x 2) (hx : ev x = .pointer (some ⟨g, o, none⟩)) : (execOp ev oi).run Try.prog W = .ok (.value (.pointer (some ⟨g, o + 2, none⟩))) W := by
  unfold execOp
  rw [ho]
  simp only [hx]
  go_simp
theorem exec_loadB {ev : Operand → Value} {oi : Oper} {x : Operand} {a : Addr} {ao : Option Addr} {n c : Nat} {W : World} (ho : oi.op = .load 22 x) (hx : ev x = .pointer (some a)) (hc : W.cell? a = some (.slice ao n c)) : (execOp ev oi).run Try.prog W = .ok (.value (.slice ao n c)) W := by
  unfold execOp
  simp only [ho, hx]
  go_simp
theorem exec_indexB {ev : Operand → Value} {oi : Oper} {x i : Operand} {a : Addr} {m cap k : Nat} {W : World} (ho : oi.op = .indexAddr 22 x i) (hx : ev x = .slice (some a) m cap) (hi : ev i = .int .i64 k) (hk : k < m) : (execOp ev oi).run Try.prog W = .ok (.value (.pointer (some (a.add k)))) W := by
  have h1 : (k : Int) < (m : Int) := by omega
  unfold execOp
  rw [ho]
  simp only [hx, hi]
  go_simp
theorem exec_load5 {ev : Operand → Value} {oi : Oper} {x : Operand} {a : Addr} {y : Int} {W : World} (ho : oi.op = .load 5 x) (hx : ev x = .pointer (some a)) (hc : W.cell? a = some (.int .u8 y)) : (execOp ev oi).run Try.prog W = .ok (.value (.int .u8 y)) W := by
  unfold execOp
  simp only [ho, hx]
  go_simp
theorem exec_one5 {ev : Operand → Value} {oi : Oper} {x : Operand} {p : Int} {W : World} (ho : oi.op = .buildSlice 22 1 #[(0, x)]) (hx : ev x = .int .u8 p) : (execOp ev oi).run Try.prog W = .ok (.value (.slice (some ⟨W.heap.size, 0, none⟩) 1 1)) (W.alloc (.cells #[.int .u8 p] 5)) := by
  obtain ⟨i0, hi, hz0, hz1, hz2⟩ := info5p
  unfold execOp
  rw [ho]
  simp only [hx, List.map_toArray, List.map_cons, List.map_nil]
  simp [Instr.buildSlice, run_underlying Try.underlying22, zeroValue, typeInfo, hi, hz0, hz1, newRow, Value.cells, Instr.fill, sizeOf]
  rw [show Array.range 1 = #[0] from by decide]
  simp
theorem exec_storeB {ev : Operand → Value} {oi : Oper} {p x : Operand} {a : Addr} {ao : Option Addr} {n c : Nat} {u : Value} {W : World} (ho : oi.op = .store 22 p x) (hp : ev p = .pointer (some a)) (hx : ev x = .slice ao n c) (hc : W.cell? a = some u) (hf : W.frozen? a = false) : (execOp ev oi).run Try.prog W = .ok .skip (W.setCell a (.slice ao n c)) := by
  unfold execOp
  simp only [ho, hp, hx]
  go_simp
/-- What the reference has told behind i places. -/
def rdT (u : Nat → Bool) (ys : List Int) (i : Nat) : List (Int × Int × List Int) × Bool := (List.range i).foldl (rdAt u ys) ([], false)
theorem rdT_succ (u : Nat → Bool) (ys : List Int) (i : Nat) : rdT u ys (i + 1) = rdAt u ys (rdT u ys i) i := by
  unfold rdT
  rw [List.range_succ, List.foldl_append]
  rfl
structure RdI (w : World) (u : Nat → Bool) (ys : List Int) (i : Nat) (v : Value) (b : Bool) (W : World) : Prop where
  below : Below w.heap.size w W
  op : (rdT u ys i).2 = b
  st : ∃ L, MkAt W w.heap.size v L ∧ L.map Pt.see = (rdT u ys i).1 ∧ L.length ≤ i ∧ (∀ p ∈ L, p.n ≤ i) ∧ (b = true → ∃ B M p, L = M ++ [p] ∧ GwAt W w.heap.size B v M p)
theorem RdI.grow {w : World} {u : Nat → Bool} {ys : List Int} {i : Nat} {v : Value} {b : Bool} {W : World} (h : RdI w u ys i v b W) (k : Nat) : RdI w u ys i v b (W.drewN k) := by
  obtain ⟨L, h1, h2, h3, h4, h5⟩ := h.st
  have hb := h.below
  refine ⟨⟨hb.os, hb.tape, hb.output, hb.size, hb.block⟩, h.op, L, h1, h2, h3, h4, fun e => ?_⟩
  obtain ⟨B, M, p, e1, g⟩ := h5 e
  exact ⟨B, M, p, e1, g.all, g.le, g.low, g.own⟩
theorem RdI.no {w : World} {u : Nat → Bool} {ys : List Int} {i : Nat} {v : Value} {b : Bool} {W : World} (h : RdI w u ys i v b W) (hu : u i = false) : RdI w u ys (i + 1) v false W := by
  obtain ⟨L, h1, h2, h3, h4, h5⟩ := h.st
  refine ⟨h.below, by rw [rdT_succ, rd_no hu], L, h1, by rw [rdT_succ, rd_no hu]; exact h2, by omega, fun p hp => by have := h4 p hp; omega, fun e => by cases e⟩
/-- Behind a byte more of the last one, which is open. -/
theorem RdI.more {w : World} {u : Nat → Bool} {ys : List Int} {i : Nat} {v : Value} {W : World} (hb : Below w.heap.size w W) {B : Nat} {M : List Pt} {p : Pt} (hg : GwAt W w.heap.size B v M p) (hs : (M ++ [p]).map Pt.see = (rdAt u ys (rdT u ys i) i).1) (ho : (rdAt u ys (rdT u ys i) i).2 = true) (hl : M.length ≤ i) (hn : ∀ q ∈ M, q.n ≤ i) (hp : p.n ≤ i + 1) : RdI w u ys (i + 1) v true W := by
  refine ⟨hb, by rw [rdT_succ]; exact ho, M ++ [p], hg.all, by rw [rdT_succ]; exact hs, by simp; omega, fun q hq => ?_, fun _ => ⟨B, M, p, rfl, hg⟩⟩
  rcases List.mem_append.1 hq with hq | hq
  · have := hn q hq; omega
  · rw [List.mem_singleton.1 hq]; exact hp
theorem GwAt.openAt {W : World} {base B : Nat} {v : Value} {M : List Pt} {p : Pt} (h : GwAt W base B v M p) : ∃ g cap, v = .slice (some ⟨g, 0, none⟩) (M.length + 1) cap := by
  have hrow := h.all.1
  rw [List.length_append] at hrow
  rcases hrow.2 with ⟨-, h0⟩ | ⟨g, cap, cur, e, -⟩
  · simp at h0
  · exact ⟨g, cap, e⟩
theorem GwAt.next {w X : World} {B : Nat} {M : List Pt} {p : Pt} {g cap : Nat} (h : GwAt X w.heap.size B (.slice (some ⟨g, 0, none⟩) (M.length + 1) cap) M p) (hb : Below w.heap.size w X) (hl : M.length ≤ 100000) (hpl : p.n ≤ 100000) (tq : Addr) (htq : tq.block < w.heap.size) (i : Nat) (y : Int) (hy : 0 ≤ y ∧ y ≤ 255) (hcy : X.cell? (tq.add i) = some (.int .u8 y)) :
    (X.cell? ⟨g, M.length * 3 + 2, none⟩ = some (.slice p.ao p.n p.c) ∧ X.cell? (tq.add i) = some (.int .u8 y)) ∧ ∃ W1 ao1 c1,
      Hid ((Builtin.append_ #[22, 22] 22 #[.slice p.ao p.n p.c, .slice (some ⟨X.heap.size, 0, none⟩) 1 1]).run Try.prog (X.alloc (.cells #[.int .u8 y] 5)) = .ok (.slice ao1 (p.n + 1) c1) W1) ∧
      Hid ((X.alloc (.cells #[.int .u8 y] 5)).cell? ⟨g, M.length * 3 + 2, none⟩ = some (.slice p.ao p.n p.c) ∧ (X.alloc (.cells #[.int .u8 y] 5)).cell? (tq.add i) = some (.int .u8 y)) ∧
      Hid (W1.cell? ⟨g, M.length * 3 + 2, none⟩ = some (.slice p.ao p.n p.c) ∧ W1.cell? (tq.add i) = some (.int .u8 y)) ∧ Hid (W1.frozen? ⟨g, M.length * 3 + 2, none⟩ = false) ∧
      Hid (GwAt (W1.setCell ⟨g, M.length * 3 + 2, none⟩ (.slice ao1 (p.n + 1) c1)) w.heap.size B (.slice (some ⟨g, 0, none⟩) (M.length + 1) cap) M ⟨p.id, p.at', ao1, p.n + 1, c1, p.xs ++ [y]⟩ ∧ Below w.heap.size w (W1.setCell ⟨g, M.length * 3 + 2, none⟩ (.slice ao1 (p.n + 1) c1))) := by
  obtain ⟨g', cap', v1, W1, ao1, c1, e, hg1, hg2, hv1, hr, hcl, hWg, hB1, hG, hB2⟩ := h.step hl hpl y hy
  cases e
  subst hv1
  have hs := hb.size
  have e1 : (X.alloc (.cells #[.int .u8 y] 5)).heap[g]? = X.heap[g]? := Below.heap_alloc _ _ _ hg2
  have t1 : ∀ A : World, A.heap[tq.block]? = X.heap[tq.block]? → A.cell? (tq.add i) = some (.int .u8 y) := fun A hA => by
    rw [World.cell?_of_block (w := X) (by rw [add_block]; exact hA)]
    exact hcy
  exact ⟨⟨(hcl X rfl).1, hcy⟩, W1, ao1, c1, Hid.mk hr, Hid.mk ⟨(hcl _ e1).1, t1 _ (Below.heap_alloc _ _ _ (by omega))⟩, Hid.mk ⟨(hcl _ hWg).1, t1 _ (hB1.block _ htq)⟩, Hid.mk (hcl _ hWg).2, Hid.mk ⟨hG, hb.trans hB2⟩⟩
set_option maxRecDepth 100000 in
theorem rdiff_no (w : World) (ao bo : Option Addr) (N M c d : Nat) (h : N ≠ M) : Calls Try.prog 19 #[.slice ao N c, .slice bo M d] w fun e w' => e = .returned (.slice none 0 0) ∧ Below w.heap.size w w' := by
  have h1 : ¬ (N : Int) = (M : Int) := by omega
  have h2 : ((N : Int) == (M : Int)) = false := by simp; omega
  go_enter Try.func19, Try.ntmps19
  go_wp2
  go_ret
  exact ⟨rfl, Below.refl _ w⟩
set_option maxRecDepth 100000 in
set_option maxHeartbeats 8000000 in
theorem rdiff_yes (w : World) (ao bo : Option Addr) (N c d : Nat) (xs ys : List Int) (hx : BAt w ao N xs) (hy : BAt w bo N ys) (hN : N ≤ 100000) (hyb : ∀ x ∈ ys, 0 ≤ x ∧ x ≤ 255) :
    Calls Try.prog 19 #[.slice ao N c, .slice bo N d] w fun e w' => ∃ v L, e = .returned v ∧ MkAt w' w.heap.size v L ∧ L.map Pt.see = dfS ys (runsN N (unB xs ys) 0) (runsN N (unB xs ys) 0).length ∧ Below w.heap.size w w' := by
  have HX := Hid.mk hx
  have HY := Hid.mk hy
  have HM := Hid.mk hN
  have HYB := Hid.mk hyb
  obtain ⟨u, hu⟩ : ∃ u, u = unB xs ys := ⟨_, rfl⟩
  have HU := Hid.mk hu
  rw [← hu]
  clear hx hy hN hyb hu
  go_enter Try.func19, Try.ntmps19
  go_wp2
  go_loopw [5, 6, 7, 8] (fun v5 v6 v7 _ wr => ∃ (i : Nat) (b : Bool), v7 = .int .i64 i ∧ v6 = .bool b ∧ Hid (i ≤ N ∧ RdI w u ys i v5 b wr)) (fun _ _ v7 _ _ => N - (Go.RowKit.intOf v7).toNat)
  case atStart => exact ⟨0, false, rfl, rfl, Hid.mk ⟨Nat.zero_le _, Below.refl _ _, rfl, [], MkAt.nil _ _, rfl, Nat.le_refl _, (fun p hp => by cases hp), fun e => by cases e⟩⟩
  case round =>
    obtain ⟨i, b, rfl, rfl, HI⟩ := hrel
    by_cases hlt : i < N
    · have hlt' : (i : Int) < (N : Int) := by omega
      have u1 : IntKind.i64.wrap ((i : Int) + 1) = ((i + 1 : Nat) : Int) := by have := HM.out; rw [IntKind.wrap_i64]; omega
      obtain ⟨fq, rfl, hcx⟩ := (HX.out.below HI.out.2.below).at i hlt
      obtain ⟨tq, rfl, hcy⟩ := (HY.out.below HI.out.2.below).at i hlt
      have htq : tq.block < w.heap.size := by
        obtain ⟨a, e, h, -⟩ := HY.out.2 (by omega)
        cases e
        exact h
      have hyl := HY.out.1
      have hyx := HYB.out (ys.getD i 0) (getD_mem (by omega))
      have HIN := Hid.mk hlt
      clear hlt
      obtain ⟨L, hm, hsee, hlL, hpn, hop⟩ := HI.out.2.st
      obtain ⟨ao5, c5, e5, -⟩ := hm.pc
      subst e5
      by_cases hui : u i = true
      · have hne : ¬ xs.getD i 0 = ys.getD i 0 := by rw [HU.out] at hui; unfold unB at hui; simpa using hui
        obtain ⟨y, hy⟩ : ∃ y, y = ys.getD i 0 := ⟨_, rfl⟩
        obtain ⟨x, hx⟩ : ∃ x, x = xs.getD i 0 := ⟨_, rfl⟩
        rw [← hy] at hcy hne hyx
        rw [← hx] at hcx hne
        have HYD := Hid.mk hy
        clear hx hy
        cases b with
        | true =>
          obtain ⟨B, M, p, e0, hg0⟩ := hop rfl
          subst e0
          have hll : (M ++ [p]).length = M.length + 1 := by simp
          rw [hll] at hg0 hlL ⊢
          obtain ⟨g, cap, e6⟩ := hg0.openAt
          cases e6
          have hb0 := HI.out.2.below
          have hst : rdT u ys i = ((M ++ [p]).map Pt.see, true) := Prod.ext hsee.symm HI.out.2.op
          have HNX := Hid.mk (fun k => GwAt.next (w := w) (X := (wr.drewN k).drew) (p := p) ⟨hg0.all, hg0.le, hg0.low, hg0.own⟩ ⟨hb0.os, hb0.tape, hb0.output, hb0.size, hb0.block⟩ (by have := HM.out; have := HIN.out; omega) (by have := HM.out; have := HIN.out; have := hpn p (by simp); omega) tq htq i y hyx hcy)
          have HFN : Hid (∀ W2 ao1 c1, GwAt W2 w.heap.size B (.slice (some ⟨g, 0, none⟩) (M.length + 1) c5) M ⟨p.id, p.at', ao1, p.n + 1, c1, p.xs ++ [y]⟩ → Below w.heap.size w W2 → RdI w u ys (i + 1) (.slice (some ⟨g, 0, none⟩) (M.length + 1) c5) true W2) := Hid.mk (fun W2 ao1 c1 h1 h2 => by
            have e7 : rdAt u ys (rdT u ys i) i = (M.map Pt.see ++ [(p.id, p.at', p.xs ++ [y])], true) := by
              rw [hst, List.map_append]
              rw [HYD.out]
              exact rd_more hui
            refine RdI.more h2 h1 (by rw [e7, List.map_append]; rfl) (by rw [e7]) (by omega) (fun q hq => hpn q (by simp [hq])) ?_
            have := hpn p (by simp)
            show p.n + 1 ≤ i + 1
            omega)
          have um : IntKind.i64.wrap (((M.length : Int) + 1) - 1) = (M.length : Int) := by have := HM.out; have := HIN.out; rw [IntKind.wrap_i64]; omega
          have um2 : IntKind.i64.wrap ((((M.length + 1 : Nat)) : Int) - 1) = (M.length : Int) := by have := HM.out; have := HIN.out; rw [IntKind.wrap_i64]; omega
          have um3 : wrap64 (M.length : Int) = (M.length : Int) := by have := HM.out; have := HIN.out; unfold wrap64; omega
          have hne2 : (x == y) = false := by simpa using hne
          clear HI hm hsee hlL hpn hop hg0 hb0 hst hui hll htq
          go_wp2
          go_quiet (fail)
          obtain ⟨hH, W1, ao1, c1, HAPP, HS11, HS12, HFZ, HGN⟩ := HNX.out nq
          clear HNX
          go_wp2
          rw [um3]
          refine wp_region_but 15 (fun W => W.cell? ⟨g, M.length * 3 + 2, none⟩ = some (.slice p.ao p.n p.c) ∧ W.cell? (tq.add i) = some (.int .u8 y)) (by kernel_rfl) hH (fun hH => ?_)
          refine takeL 0 41 (.slice (some ⟨g, 0, none⟩) (M.length + 1) c5) rfl (by kernel_rfl) (by kernel_rfl) (by kernel_rfl) (by kernel_rfl) (by kernel_rfl) (fun _ _ _ h => h) (by kernel_rfl) (fun w hw => by kernel_rfl) hH ?_
          simp only [List.setIfInBounds_toArray, List.set_cons_zero, List.set_cons_succ]
          refine takeL 1 42 (.int .i64 (M.length : Nat)) rfl (by kernel_rfl) (by kernel_rfl) (by kernel_rfl) (by kernel_rfl) (by kernel_rfl) (fun _ _ _ h => h) (by kernel_rfl) (fun w hw => by kernel_rfl) hH ?_
          simp only [List.setIfInBounds_toArray, List.set_cons_zero, List.set_cons_succ]
          refine takeL 2 43 (.slice (some ⟨g, 0, none⟩) (M.length + 1) c5) rfl (by kernel_rfl) (by kernel_rfl) (by kernel_rfl) (by kernel_rfl) (by kernel_rfl) (fun _ _ _ h => h) (by kernel_rfl) (fun w hw => by kernel_rfl) hH ?_
          simp only [List.setIfInBounds_toArray, List.set_cons_zero, List.set_cons_succ]
          refine takeL 3 44 (.int .i64 (M.length : Nat)) rfl (by kernel_rfl) (by kernel_rfl) (by kernel_rfl) (by kernel_rfl) (by kernel_rfl) (fun _ _ _ h => h) (by kernel_rfl) (fun w hw => by kernel_rfl) hH ?_
          simp only [List.setIfInBounds_toArray, List.set_cons_zero, List.set_cons_succ]
          refine takeL 4 45 (.pointer (some ⟨g, M.length * 3, none⟩)) rfl (by kernel_rfl) (by kernel_rfl) (by kernel_rfl) (by kernel_rfl) (by kernel_rfl) (fun _ _ _ h => h) (by kernel_rfl) (fun w hw => by exact exec_index (m := M.length + 1) (cap := c5) (x := .tmp 43) (i := .tmp 44) (by kernel_rfl) (by kernel_rfl) (by kernel_rfl) (Nat.lt_succ_self _)) hH ?_
          simp only [List.setIfInBounds_toArray, List.set_cons_zero, List.set_cons_succ]
          refine takeL 5 46 (.pointer (some ⟨g, M.length * 3 + 2, none⟩)) rfl (by kernel_rfl) (by kernel_rfl) (by kernel_rfl) (by kernel_rfl) (by kernel_rfl) (fun _ _ _ h => h) (by kernel_rfl) (fun w hw => by exact exec_field (x := .tmp 45) (by kernel_rfl) (by kernel_rfl)) hH ?_
          simp only [List.setIfInBounds_toArray, List.set_cons_zero, List.set_cons_succ]
          refine takeL 6 47 (.slice p.ao p.n p.c) rfl (by kernel_rfl) (by kernel_rfl) (by kernel_rfl) (by kernel_rfl) (by kernel_rfl) (fun _ _ _ h => h) (by kernel_rfl) (fun w hw => by exact exec_loadB (x := .tmp 46) (by kernel_rfl) (by kernel_rfl) hw.1) hH ?_
          simp only [List.setIfInBounds_toArray, List.set_cons_zero, List.set_cons_succ]
          refine takeL 7 48 (.slice (some tq) N d) rfl (by kernel_rfl) (by kernel_rfl) (by kernel_rfl) (by kernel_rfl) (by kernel_rfl) (fun _ _ _ h => h) (by kernel_rfl) (fun w hw => by kernel_rfl) hH ?_
          simp only [List.setIfInBounds_toArray, List.set_cons_zero, List.set_cons_succ]
          refine takeL 8 49 (.int .i64 i) rfl (by kernel_rfl) (by kernel_rfl) (by kernel_rfl) (by kernel_rfl) (by kernel_rfl) (fun _ _ _ h => h) (by kernel_rfl) (fun w hw => by kernel_rfl) hH ?_
          simp only [List.setIfInBounds_toArray, List.set_cons_zero, List.set_cons_succ]
          refine takeL 9 50 (.pointer (some (tq.add i))) rfl (by kernel_rfl) (by kernel_rfl) (by kernel_rfl) (by kernel_rfl) (by kernel_rfl) (fun _ _ _ h => h) (by kernel_rfl) (fun w hw => by exact exec_indexB (m := N) (cap := d) (x := .tmp 48) (i := .tmp 49) (by kernel_rfl) (by kernel_rfl) (by kernel_rfl) HIN.out) hH ?_
          simp only [List.setIfInBounds_toArray, List.set_cons_zero, List.set_cons_succ]
          refine takeL 10 51 (.int .u8 y) rfl (by kernel_rfl) (by kernel_rfl) (by kernel_rfl) (by kernel_rfl) (by kernel_rfl) (fun _ _ _ h => h) (by kernel_rfl) (fun w hw => by exact exec_load5 (x := .tmp 50) (by kernel_rfl) (by kernel_rfl) hw.2) hH ?_
          simp only [List.setIfInBounds_toArray, List.set_cons_zero, List.set_cons_succ]
          refine stepL_run 11 52 (.slice (some ⟨(wr.drewN nq).drew.heap.size, 0, none⟩) 1 1) ((wr.drewN nq).drew.alloc (.cells #[.int .u8 y] 5)) rfl (by kernel_rfl) (by kernel_rfl) (by kernel_rfl) (exec_one5 (x := .tmp 51) (by kernel_rfl) (by kernel_rfl)) HS11.out ?_
          simp only [List.setIfInBounds_toArray, List.set_cons_zero, List.set_cons_succ]
          refine stepL_run 12 53 (.slice ao1 (p.n + 1) c1) W1 rfl (by kernel_rfl) (by kernel_rfl) (by kernel_rfl) (exec_append (s := .tmp 47) (x := .tmp 52) (by kernel_rfl) (by kernel_rfl) (by kernel_rfl) HAPP.out) HS12.out ?_
          simp only [List.setIfInBounds_toArray, List.set_cons_zero, List.set_cons_succ]
          refine stepL_run 13 54 (.pointer (some ⟨g, M.length * 3, none⟩)) W1 rfl (by kernel_rfl) (by kernel_rfl) (by kernel_rfl) (exec_index (m := M.length + 1) (cap := c5) (x := .tmp 41) (i := .tmp 42) (by kernel_rfl) (by kernel_rfl) (by kernel_rfl) (Nat.lt_succ_self _)) HS12.out ?_
          simp only [List.setIfInBounds_toArray, List.set_cons_zero, List.set_cons_succ]
          refine stepL_run 14 55 (.pointer (some ⟨g, M.length * 3 + 2, none⟩)) W1 rfl (by kernel_rfl) (by kernel_rfl) (by kernel_rfl) (exec_field (x := .tmp 54) (by kernel_rfl) (by kernel_rfl)) HS12.out ?_
          simp only [List.setIfInBounds_toArray, List.set_cons_zero, List.set_cons_succ]
          refine lastL (W1.setCell ⟨g, M.length * 3 + 2, none⟩ (.slice ao1 (p.n + 1) c1)) rfl (by kernel_rfl) (by kernel_rfl) (by kernel_rfl) (exec_storeB (p := .tmp 55) (x := .tmp 53) (by kernel_rfl) (by kernel_rfl) (by kernel_rfl) HS12.out.1 HFZ.out) (by kernel_rfl) ?_
          go_wp2
          go_roundw
          case rel => exact ⟨i + 1, true, rfl, rfl, Hid.mk ⟨HIN.out, HFN.out _ _ _ HGN.out.1 HGN.out.2⟩⟩
          case measure => (have := HIN.out; simp [Go.RowKit.intOf]; omega)
        | false =>
          have hb0 := HI.out.2.below
          have hst : rdT u ys i = (L.map Pt.see, false) := Prod.ext hsee.symm HI.out.2.op
          have hi64 : I64 (i : Int) := ⟨by have := HM.out; have := HIN.out; omega, by have := HM.out; have := HIN.out; omega⟩
          have hl64 : I64 ((L.length : Nat) : Int) := ⟨by omega, by have := HM.out; have := HIN.out; omega⟩
          have HBG := Hid.mk (fun k => MkAt.begin (W := wr.drewN k) (L := L) ⟨hm.1, hm.2⟩ hb0.size (by have := HM.out; have := HIN.out; omega) ((L.length : Nat) : Int) (i : Int) hl64 hi64)
          have HNX : Hid (∀ k W' ao' c' g cap, Below w.heap.size (wr.drewN k) W' → GwAt W' w.heap.size (wr.drewN k).heap.size (.slice (some ⟨g, 0, none⟩) (L.length + 1) cap) L ⟨((L.length : Nat) : Int), (i : Int), none, 0, 0, []⟩ → ao' = some (⟨g, 0, none⟩ : Addr) → c' = cap → _) := Hid.mk (fun k W' ao' c' g cap hBk hG _ _ => GwAt.next (w := w) (X := W'.drew) (M := L) ⟨hG.all, hG.le, hG.low, hG.own⟩ (by
            have hbk : Below w.heap.size w (wr.drewN k) := ⟨hb0.os, hb0.tape, hb0.output, hb0.size, hb0.block⟩
            have hb1 : Below w.heap.size w W' := hbk.trans hBk
            exact ⟨hb1.os, hb1.tape, hb1.output, hb1.size, hb1.block⟩) (by have := HM.out; have := HIN.out; omega) (Nat.zero_le _) tq htq i y hyx (by
            have e9 : W'.heap[tq.block]? = wr.heap[tq.block]? := hBk.block _ htq
            rw [World.cell?_of_block (w := wr) (by rw [add_block]; exact e9)]
            exact hcy))
          have HFN : Hid (∀ W2 ao1 c1 g cap B, GwAt W2 w.heap.size B (.slice (some ⟨g, 0, none⟩) (L.length + 1) cap) L ⟨((L.length : Nat) : Int), (i : Int), ao1, 0 + 1, c1, [] ++ [y]⟩ → Below w.heap.size w W2 → RdI w u ys (i + 1) (.slice (some ⟨g, 0, none⟩) (L.length + 1) cap) true W2) := Hid.mk (fun W2 ao1 c1 g cap B h1 h2 => by
            have e7 : rdAt u ys (rdT u ys i) i = (L.map Pt.see ++ [(((L.length : Nat) : Int), (i : Int), [y])], true) := by
              rw [hst, HYD.out, rd_new hui, List.length_map]
            exact RdI.more h2 h1 (by rw [e7, List.map_append]; rfl) (by rw [e7]) (by omega) hpn (by show 0 + 1 ≤ i + 1; omega))
          have um : IntKind.i64.wrap (((L.length : Int) + 1) - 1) = (L.length : Int) := by have := HM.out; have := HIN.out; rw [IntKind.wrap_i64]; omega
          have um2 : IntKind.i64.wrap ((((L.length + 1 : Nat)) : Int) - 1) = (L.length : Int) := by have := HM.out; have := HIN.out; rw [IntKind.wrap_i64]; omega
          have um3 : wrap64 (L.length : Int) = (L.length : Int) := by have := HM.out; have := HIN.out; unfold wrap64; omega
          have hne2 : (x == y) = false := by simpa using hne
          clear HI hm hsee hlL hpn hop hb0 hst hui htq hi64 hl64
          go_wp2
          go_quiet (fail)
          obtain ⟨v', W', hr', ⟨ao', c', ev'⟩, hG', hB'⟩ := HBG.out nq
          obtain ⟨g, cap, eg⟩ := hG'.openAt
          rw [eg] at ev'
          cases ev'
          subst eg
          obtain ⟨hH, W1, ao1, c1, HAPP, HS11, HS12, HFZ, HGN⟩ := HNX.out nq W' _ _ g c' hB' hG' rfl rfl
          have HR := Hid.mk hr'
          clear HNX HBG hr' hG' hB'
          go_wp2_with (at_builtin; refine wpList_append_known rfl (.tmp 31) (.tmp 36) 23 rfl _ _ _ _ rfl rfl HR.out ?_)
          rw [um3]
          refine wp_region_but 15 (fun W => W.cell? ⟨g, L.length * 3 + 2, none⟩ = some (.slice none 0 0) ∧ W.cell? (tq.add i) = some (.int .u8 y)) (by kernel_rfl) hH (fun hH => ?_)
          refine takeL 0 41 (.slice (some ⟨g, 0, none⟩) (L.length + 1) c') rfl (by kernel_rfl) (by kernel_rfl) (by kernel_rfl) (by kernel_rfl) (by kernel_rfl) (fun _ _ _ h => h) (by kernel_rfl) (fun w hw => by kernel_rfl) hH ?_
          simp only [List.setIfInBounds_toArray, List.set_cons_zero, List.set_cons_succ]
          refine takeL 1 42 (.int .i64 (L.length : Nat)) rfl (by kernel_rfl) (by kernel_rfl) (by kernel_rfl) (by kernel_rfl) (by kernel_rfl) (fun _ _ _ h => h) (by kernel_rfl) (fun w hw => by kernel_rfl) hH ?_
          simp only [List.setIfInBounds_toArray, List.set_cons_zero, List.set_cons_succ]
          refine takeL 2 43 (.slice (some ⟨g, 0, none⟩) (L.length + 1) c') rfl (by kernel_rfl) (by kernel_rfl) (by kernel_rfl) (by kernel_rfl) (by kernel_rfl) (fun _ _ _ h => h) (by kernel_rfl) (fun w hw => by kernel_rfl) hH ?_
          simp only [List.setIfInBounds_toArray, List.set_cons_zero, List.set_cons_succ]
          refine takeL 3 44 (.int .i64 (L.length : Nat)) rfl (by kernel_rfl) (by kernel_rfl) (by kernel_rfl) (by kernel_rfl) (by kernel_rfl) (fun _ _ _ h => h) (by kernel_rfl) (fun w hw => by kernel_rfl) hH ?_
          simp only [List.setIfInBounds_toArray, List.set_cons_zero, List.set_cons_succ]
          refine takeL 4 45 (.pointer (some ⟨g, L.length * 3, none⟩)) rfl (by kernel_rfl) (by kernel_rfl) (by kernel_rfl) (by kernel_rfl) (by kernel_rfl) (fun _ _ _ h => h) (by kernel_rfl) (fun w hw => by exact exec_index (m := L.length + 1) (cap := c') (x := .tmp 43) (i := .tmp 44) (by kernel_rfl) (by kernel_rfl) (by kernel_rfl) (Nat.lt_succ_self _)) hH ?_
          simp only [List.setIfInBounds_toArray, List.set_cons_zero, List.set_cons_succ]
          refine takeL 5 46 (.pointer (some ⟨g, L.length * 3 + 2, none⟩)) rfl (by kernel_rfl) (by kernel_rfl) (by kernel_rfl) (by kernel_rfl) (by kernel_rfl) (fun _ _ _ h => h) (by kernel_rfl) (fun w hw => by exact exec_field (x := .tmp 45) (by kernel_rfl) (by kernel_rfl)) hH ?_
          simp only [List.setIfInBounds_toArray, List.set_cons_zero, List.set_cons_succ]
          refine takeL 6 47 (.slice none 0 0) rfl (by kernel_rfl) (by kernel_rfl) (by kernel_rfl) (by kernel_rfl) (by kernel_rfl) (fun _ _ _ h => h) (by kernel_rfl) (fun w hw => by exact exec_loadB (x := .tmp 46) (by kernel_rfl) (by kernel_rfl) hw.1) hH ?_
          simp only [List.setIfInBounds_toArray, List.set_cons_zero, List.set_cons_succ]
          refine takeL 7 48 (.slice (some tq) N d) rfl (by kernel_rfl) (by kernel_rfl) (by kernel_rfl) (by kernel_rfl) (by kernel_rfl) (fun _ _ _ h => h) (by kernel_rfl) (fun w hw => by kernel_rfl) hH ?_
          simp only [List.setIfInBounds_toArray, List.set_cons_zero, List.set_cons_succ]
          refine takeL 8 49 (.int .i64 i) rfl (by kernel_rfl) (by kernel_rfl) (by kernel_rfl) (by kernel_rfl) (by kernel_rfl) (fun _ _ _ h => h) (by kernel_rfl) (fun w hw => by kernel_rfl) hH ?_
          simp only [List.setIfInBounds_toArray, List.set_cons_zero, List.set_cons_succ]
          refine takeL 9 50 (.pointer (some (tq.add i))) rfl (by kernel_rfl) (by kernel_rfl) (by kernel_rfl) (by kernel_rfl) (by kernel_rfl) (fun _ _ _ h => h) (by kernel_rfl) (fun w hw => by exact exec_indexB (m := N) (cap := d) (x := .tmp 48) (i := .tmp 49) (by kernel_rfl) (by kernel_rfl) (by kernel_rfl) HIN.out) hH ?_
          simp only [List.setIfInBounds_toArray, List.set_cons_zero, List.set_cons_succ]
          refine takeL 10 51 (.int .u8 y) rfl (by kernel_rfl) (by kernel_rfl) (by kernel_rfl) (by kernel_rfl) (by kernel_rfl) (fun _ _ _ h => h) (by kernel_rfl) (fun w hw => by exact exec_load5 (x := .tmp 50) (by kernel_rfl) (by kernel_rfl) hw.2) hH ?_
          simp only [List.setIfInBounds_toArray, List.set_cons_zero, List.set_cons_succ]
          refine stepL_run 11 52 (.slice (some ⟨W'.drew.heap.size, 0, none⟩) 1 1) (W'.drew.alloc (.cells #[.int .u8 y] 5)) rfl (by kernel_rfl) (by kernel_rfl) (by kernel_rfl) (exec_one5 (x := .tmp 51) (by kernel_rfl) (by kernel_rfl)) HS11.out ?_
          simp only [List.setIfInBounds_toArray, List.set_cons_zero, List.set_cons_succ]
          refine stepL_run 12 53 (.slice ao1 (0 + 1) c1) W1 rfl (by kernel_rfl) (by kernel_rfl) (by kernel_rfl) (exec_append (s := .tmp 47) (x := .tmp 52) (by kernel_rfl) (by kernel_rfl) (by kernel_rfl) HAPP.out) HS12.out ?_
          simp only [List.setIfInBounds_toArray, List.set_cons_zero, List.set_cons_succ]
          refine stepL_run 13 54 (.pointer (some ⟨g, L.length * 3, none⟩)) W1 rfl (by kernel_rfl) (by kernel_rfl) (by kernel_rfl) (exec_index (m := L.length + 1) (cap := c') (x := .tmp 41) (i := .tmp 42) (by kernel_rfl) (by kernel_rfl) (by kernel_rfl) (Nat.lt_succ_self _)) HS12.out ?_
          simp only [List.setIfInBounds_toArray, List.set_cons_zero, List.set_cons_succ]
          refine stepL_run 14 55 (.pointer (some ⟨g, L.length * 3 + 2, none⟩)) W1 rfl (by kernel_rfl) (by kernel_rfl) (by kernel_rfl) (exec_field (x := .tmp 54) (by kernel_rfl) (by kernel_rfl)) HS12.out ?_
          simp only [List.setIfInBounds_toArray, List.set_cons_zero, List.set_cons_succ]
          refine lastL (W1.setCell ⟨g, L.length * 3 + 2, none⟩ (.slice ao1 (0 + 1) c1)) rfl (by kernel_rfl) (by kernel_rfl) (by kernel_rfl) (exec_storeB (p := .tmp 55) (x := .tmp 53) (by kernel_rfl) (by kernel_rfl) (by kernel_rfl) HS12.out.1 HFZ.out) (by kernel_rfl) ?_
          go_wp2
          go_roundw
          case rel => exact ⟨i + 1, true, rfl, rfl, Hid.mk ⟨HIN.out, HFN.out _ _ _ _ _ _ HGN.out.1 HGN.out.2⟩⟩
          case measure => (have := HIN.out; simp [Go.RowKit.intOf]; omega)
      · have he : xs.getD i 0 = ys.getD i 0 := by rw [HU.out] at hui; unfold unB at hui; simpa using hui
        rw [← he] at hcy
        generalize xs.getD i 0 = x at hcx hcy
        have HNX := Hid.mk (HI.out.2.no (by simpa using hui))
        clear HI hm hsee hlL hpn hop he hui
        go_wp2
        go_quiet (fail)
        go_wp2
        go_roundw
        case rel => exact ⟨i + 1, false, rfl, rfl, Hid.mk ⟨HIN.out, HNX.out.grow _⟩⟩
        case measure => (have := HIN.out; simp [Go.RowKit.intOf]; omega)
    · obtain rfl : i = N := by have := HI.out.1; omega
      have hlt' : ¬ (i : Int) < (i : Int) := by omega
      have hyl := HY.out.1
      obtain ⟨L, hm, hsee, hlL, hpn, hop⟩ := HI.out.2.st
      have hB := HI.out.2.below
      have HF : Hid (MkAt wr w.heap.size u5 L ∧ L.map Pt.see = dfS ys (runsN i u 0) (runsN i u 0).length ∧ Below w.heap.size w wr) := Hid.mk ⟨hm, by rw [hsee, ← rd_is i u ys hyl]; rfl, hB⟩
      clear HI hm hsee hlL hpn hop hB hyl
      go_wp2
      go_ret
      exact ⟨_, rfl, L, HF.out⟩
end Go.Proofs.Ytjljklfahmjngaa
