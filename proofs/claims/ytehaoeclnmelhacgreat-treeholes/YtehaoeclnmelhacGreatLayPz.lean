/-
  A region that draws its order inside a round: walked as outside of it.
-/
import Derived.Test.YtehaoeclnmelhacGreatBase
import Derived.Test.YtehaoeclnmelhacGreatMem
import Derived.Test.YtehaoeclnmelhacGreatLayWa
import Derived.Test.YtehaoeclnmelhacGreatTrEnter
import Derived.RangeFuncCalls
import Derived.OwnWalkIn
import Derived.BigRegionIn
import Derived.BigFrameIn
namespace Go.Proofs.YtehaoeclnmelhacGreat
open Go Go.Proofs Go.RowKit Go.Shelf

section
variable {P : Program} {l n : Nat} {ops : Array Oper} {Q : Exit → Act → World → Prop}
theorem rowsIn_wide {row : String} {args : Array Value} {w : World} {R : Value → World → Prop} (h : Rows P row args w R) : RowsIn (Fence.wide.inRound l) n P row args w R :=
  fun c cs _ => let ⟨v, w', r, s⟩ := h c cs; ⟨v, w', r, stepsIn_wide.2 s⟩
theorem callsIn_round {f : FuncId} {args : Array Value} {w : World} {R : Ending → World → Prop} (h : Calls P f args w R) : CallsIn (Fence.wide.inRound l) n P f args w R := (callsIn_wide (n := n)).2 h
/-- What is wanted behind a region, in a form that lets nothing out. -/
def Norm (K : Act → World → Prop) : Exit → Act → World → Prop
  | .normal, a, w => K a w
  | _, _, _ => False
theorem norm_in (K : Act → World → Prop) : ¬ LetsOut (Norm K) := by
  rintro ⟨_, _, h⟩
  exact h
/-- An operation that is no defer statement. -/
theorem operIn_of_oper {o : Oper} {a : Act} {w : World} {K K' : Act → World → Prop} (hp : ∀ c, o.op ≠ .defer c) (hK : ∀ a w, K a w → K' a w) (h : o.wp P a w K (Norm (Q .normal))) : o.wpIn (Fence.wide.inRound l) n P a w K' Q := by
  refine ⟨fun _ _ => trivial, ?_⟩
  rw [Oper.semAt_plain (Fence.wide.inRound l) _ _ hp]
  unfold Oper.wp at h
  generalize (execOp a.eval o).run P w = r at *
  cases r with
  | ok x w' =>
    cases x <;> simp only [Oper.upon, Oper.uponIn] at h ⊢
    case enter f args =>
      refine ⟨fun hd => by simp [Fence.wide] at hd, callsIn_round (Calls.mono h fun e w'' he => ?_)⟩
      cases e with
      | returned v => exact hK _ _ he
      | panicked c => exact he.elim
      | outgrown => exact absurd he (norm_in _)
    case row row args => exact ⟨fun hd => by simp [Fence.wide] at hd, rowsIn_wide (Rows.mono h fun v w'' he => hK _ _ he)⟩
    all_goals first | exact hK _ _ h | exact h.elim
  | halt x w' => cases x <;> simp only [Oper.upon, Oper.uponIn] at h ⊢ <;> first | exact h.elim | exact h
def plainB (ops : Array Oper) : Bool := ops.all (fun o => match o.op with | .defer _ => false | _ => true)
theorem plainB_spec (h : plainB ops = true) (i : Nat) (o : Oper) (ho : ops[i]? = some o) : ∀ c, o.op ≠ .defer c := by
  intro c hc
  have hlt := (Array.getElem?_eq_some_iff.1 ho).1
  have he := (Array.getElem?_eq_some_iff.1 ho).2
  have h1 := Array.all_eq_true.1 h i hlt
  rw [he, hc] at h1
  cases h1
theorem opsIn_of_ops (hp : plainB ops = true) : ∀ (js : List Nat) (a : Act) (w : World), wpOps P ops (Norm (Q .normal)) js a w → wpOpsIn (Fence.wide.inRound l) n P ops Q js a w
  | [], _, _, h => h
  | i :: rest, a, w, h => by
    unfold wpOps at h
    unfold wpOpsIn
    cases ho : ops[i]? with
    | none => rw [ho] at h; exact opsIn_of_ops hp rest a w h
    | some o =>
      rw [ho] at h
      dsimp only at h ⊢
      split
      · rename_i hw
        rw [if_pos hw] at h
        rcases h with h | h
        · exact operIn_of_oper (plainB_spec hp i o ho) (fun a' w' h' => opsIn_of_ops hp rest a' w' h') h
        · exact absurd h.2 (norm_in _)
      · rename_i hw
        rw [if_neg hw] at h
        exact ⟨fun _ _ => trivial, opsIn_of_ops hp rest _ w h⟩
/-- A region that draws its order, inside a round: as outside of it, by what S holds. -/
theorem round_region_held {id : Nat} {a : Act} {w : World} (S : World → Prop) (hm : P.follows .mixedOrders = true) (hp : plainB ops = true) (hS : S w.drew)
    (h : S w.drew → wpAnyH P .any ops (Norm (Q .normal)) S ops.size (Array.replicate ops.size false) a w.drew) : (Code.region id ops true).wpIn (Fence.wide.inRound l) n P Q a w := by
  refine wpIn_region_draw fun t => ?_
  simp only [Region.schedule, hm, Bool.true_or, if_true]
  have h1 := wpAny_sound (P := P) (md := .any) (ops := ops) ops.size t _ a _ (wpAny_of_held _ _ _ _ (h hS))
  exact opsIn_of_ops (l := l) (n := n) hp _ _ _ h1
end
end Go.Proofs.YtehaoeclnmelhacGreat
namespace Go.Proofs.YtehaoeclnmelhacGreat
open Go Go.Proofs Go.RowKit Go.Shelf
attribute [local go_sem] Oper.semAt_some

theorem wpIn_range_kx {n : Nat} {P : Program} {g : Operand} {ps : Array Tmp} {assign body : Code} {Q : Exit → Act → World → Prop} {a : Act} {w : World}
    {gf : Nat} {lb : Array Value} (hg : a.eval g = .func (.func gf) #[] lb) (eg : ∀ args w, (callFunc gf args).run P w = .ok (.enter gf args) w)
    (N : Nat) (V : Nat → Array Value) (hV : ∀ k, (V k).size = ps.size)
    (I : Nat → World → Prop) (X : World → Prop)
    (hI : ∀ k A B row, I k A → A.grownBy B row → (∀ r, row = some r → r = w.heap.size + 1) → I k B)
    (hX : ∀ A B row, X A → A.grownBy B row → (∀ r, row = some r → r = w.heap.size + 1) → X B) (h0 : I 0 w)
    (hit : ∀ (l : Nat) (J : Nat → World → Prop) (Jx : World → Prop) (W : World), (∀ k A, J k A → I k A) → w.grownBy W none →
      (∀ k A, J k A → k < N → YieldAt Fence.wide (n - 1 - 1) P l (V k) A fun e W' => (e = .returned (.bool true) ∧ J (k + 1) W') ∨ (e = .returned (.bool false) ∧ Jx W')) → J 0 W →
      CallsIn Fence.wide (n - 1) P gf (#[.func (.yield l) #[] #[]] ++ lb) W fun e W' => (∃ v, e = .returned v) ∧ (J N W' ∨ Jx W'))
    (asA : Nat → World → Act) (asW : Nat → World → World) (has : ∀ (k : Nat) (W : World), W.grownBy (asW k W) none)
    (hassign : ∀ (l k : Nat) (W : World) (K : Act → World → Prop), K (asA k W) (asW k W) →
      assign.wpIn (Fence.wide.inRound l) (n - 1 - 1) P (Exit.then K (fun _ _ _ => False)) { tmps := (ps.zip (V k)).foldl (fun t (p, v) => t.setIfInBounds p v) a.tmps, defers := [] } W)
    (hbody : ∀ (l k : Nat) (W W2 : World), I k W → k < N → w.heap.size + 2 ≤ W.heap.size → (asW k W).grownBy W2 (some (w.heap.size + 1)) → W2.heap.size = (asW k W).heap.size →
      body.wpIn (Fence.wide.inRound l) (n - 1 - 1) P (fun e _ W' => W'.heap[w.heap.size]? = W2.heap[w.heap.size]? ∧ W'.heap[w.heap.size + 1]? = W2.heap[w.heap.size + 1]? ∧
      ((e = .normal ∧ I (k + 1) W') ∨ (e = .ret ∧ X W'))) (asA k W) W2)
    (hdone : ∀ (D : Nat) (W : World), D = w.heap.size → I N W → W.heap[D]? = some (.deferred (some [])) → Q .normal { a with defers := { target := .collected D, args := #[] } :: a.defers } W)
    (hstop : ∀ (D : Nat) (W : World), D = w.heap.size → X W → W.heap[D]? = some (.deferred (some [])) → Code.ret.wpIn Fence.wide n P Q { a with defers := { target := .collected D, args := #[] } :: a.defers } W) :
    (Code.rangeFunc g ps assign body).wpIn Fence.wide n P Q a w := by
  refine wpIn_rangeFunc ?_
  intro fn hfn
  obtain ⟨rec, hrec⟩ : ∃ rec : LoopState → Option Code → Loop, rec = fun st pe => { state := st, pending := pe, fn, tmps := a.tmps, params := ps, assign, body, defers := w.heap.size } := ⟨_, rfl⟩
  obtain ⟨W1, hW1⟩ : ∃ W1, W1 = (w.alloc (.deferred (some []))).alloc (.loop (rec .ready none)) := ⟨_, rfl⟩
  have b1 : W1.heap[w.heap.size + 1]? = some (.loop (rec .ready none)) := by
    have := blk_new (w.alloc (.deferred (some []))) (.loop (rec .ready none))
    rw [hW1]
    rwa [World.size_alloc] at this
  have b0 : W1.heap[w.heap.size]? = some (.deferred (some [])) := by
    rw [hW1, Below.heap_alloc _ _ _ (by simp)]
    exact blk_new w _
  have hg1 : w.grownBy W1 none := by
    rw [hW1]
    exact ⟨rfl, rfl, rfl, by simp; omega, fun k hk _ => by rw [Below.heap_alloc _ _ _ (by simp; omega), Below.heap_alloc _ _ _ hk]⟩
  refine ⟨w.heap.size + 1, [{ target := .collected w.heap.size, args := #[] }], W1, { target := .fn (.func gf) lb, args := #[.func (.yield (w.heap.size + 1)) #[] #[]] }, W1, gf,
    #[.func (.yield (w.heap.size + 1)) #[] #[]] ++ lb, W1, ?_, ?_, fun _ _ => trivial, ?_, fun h => by simp [Fence.wide] at h, ?_⟩
  · rw [hW1, hrec]
    exact run_enterLoop_outer _ _ _ _ _
  · simp only [resolve, hg]
    simp [go_sem]
  · simp [invoke, go_sem, eg]
  · refine (hit (w.heap.size + 1) (fun k A => I k A ∧ A.heap[w.heap.size + 1]? = some (.loop (rec .ready none)) ∧ A.heap[w.heap.size]? = some (.deferred (some [])))
      (fun A => X A ∧ A.heap[w.heap.size + 1]? = some (.loop (rec .done (some .ret))) ∧ A.heap[w.heap.size]? = some (.deferred (some []))) W1 (fun k A h => h.1) hg1 ?_ ⟨hI 0 w W1 none h0 hg1 (by simp), b1, b0⟩).mono ?_
    · rintro k A ⟨hIk, hl, hd⟩ hk
      have hlt : w.heap.size + 1 < A.heap.size := lt_of_block hl
      have hy := run_yield (P := P) (args := V k) hl (by rw [hrec]; exact hV k)
      rw [hrec] at hy
      have hga := has k A
      have hla : (asW k A).heap[w.heap.size + 1]? = some (.loop (rec .ready none)) := (hga.block _ hlt (by simp)).trans hl
      have hda : (asW k A).heap[w.heap.size]? = some (.deferred (some [])) := (hga.block _ (lt_of_block hd) (by simp)).trans hd
      have hlta : w.heap.size + 1 < (asW k A).heap.size := lt_of_block hla
      refine ⟨fn, _, assign, body, hy, roundIn_of_wpIn hfn (hassign _ k A _ ⟨_, run_beginRound hla (by rw [hrec]), ?_⟩)⟩
      have hl2 : ((asW k A).putObj (w.heap.size + 1) (.loop { rec .ready none with state := .busy })).heap[w.heap.size + 1]? = some (.loop { rec .ready none with state := .busy }) := World.putObj_heap_same hlta
      have hd2 : ((asW k A).putObj (w.heap.size + 1) (.loop { rec .ready none with state := .busy })).heap[w.heap.size]? = some (.deferred (some [])) := (World.putObj_heap_other (by omega)).trans hda
      have fin : ∀ (jump : Option Code) (W3 : World), W3.heap[w.heap.size + 1]? = some (.loop { rec .ready none with state := .busy }) → W3.heap[w.heap.size]? = some (.deferred (some [])) →
          (Instr.endRound (w.heap.size + 1) jump).run P W3 = .ok (.bool jump.isNone) (W3.putObj (w.heap.size + 1) (.loop (rec (if jump.isNone then .ready else .done) jump))) ∧
          (W3.putObj (w.heap.size + 1) (.loop (rec (if jump.isNone then .ready else .done) jump))).heap[w.heap.size + 1]? = some (.loop (rec (if jump.isNone then .ready else .done) jump)) ∧
          (W3.putObj (w.heap.size + 1) (.loop (rec (if jump.isNone then .ready else .done) jump))).heap[w.heap.size]? = some (.deferred (some [])) := fun jump W3 hl3 hd3 => by
        have := run_endRound (P := P) jump hl3
        rw [hrec] at this ⊢
        exact ⟨this, World.putObj_heap_same (lt_of_block hl3), (World.putObj_heap_other (by omega)).trans hd3⟩
      refine wpIn_mono (hbody (w.heap.size + 1) k A _ hIk hk (by omega) (grownBy_putObj' _ _ _) (by simp)) ?_
      rintro e a3 W3 ⟨hd3, hl3, hp⟩
      rw [hl2] at hl3
      rw [hd2] at hd3
      rcases hp with ⟨rfl, hi3⟩ | ⟨rfl, hx3⟩
      · obtain ⟨hr, hl4, hk4⟩ := fin none W3 hl3 hd3
        exact ⟨_, _, hr, .inl ⟨rfl, hI (k + 1) W3 _ (some (w.heap.size + 1)) hi3 (grownBy_putObj' _ _ _) (fun r e => by cases e; rfl), hl4, hk4⟩⟩
      · obtain ⟨hr, hl4, hk4⟩ := fin (some .ret) W3 hl3 hd3
        exact ⟨_, _, hr, .inr ⟨rfl, hX W3 _ (some (w.heap.size + 1)) hx3 (grownBy_putObj' _ _ _) (fun r e => by cases e; rfl), hl4, hk4⟩⟩
    · rintro e W2 ⟨⟨v, rfl⟩, (⟨hi, hl, hk⟩ | ⟨hx, hl, hk⟩)⟩
      · exact ⟨none, _, by have := run_endLoop (P := P) hl (by rw [hrec]; simp); rw [hrec] at this; exact this, hdone _ _ rfl (hI N W2 _ (some (w.heap.size + 1)) hi (grownBy_putObj' _ _ _) (fun r e => by cases e; rfl)) ((World.putObj_heap_other (by omega)).trans hk)⟩
      · exact ⟨some .ret, _, by have := run_endLoop (P := P) hl (by rw [hrec]; simp); rw [hrec] at this; exact this, hstop _ _ rfl (hX W2 _ (some (w.heap.size + 1)) hx (grownBy_putObj' _ _ _) (fun r e => by cases e; rfl)) ((World.putObj_heap_other (by omega)).trans hk)⟩
/-- The k-th run: where it begins; the next one's begin is its end. -/
def pzF (off n : Int) (k : Nat) : Int := if k = 0 then 0 else min n ((off / 1024 + k) * 1024 - off)
/-- Its block, and its place in it. -/
def pzB (off : Int) (k : Nat) : Int := off / 1024 + k
def pzA (off : Int) (k : Nat) : Int := if k = 0 then off % 1024 else 0
def pzN (off n : Int) : Nat := if n ≤ 0 then 0 else ((off + n - 1) / 1024 - off / 1024 + 1).toNat
def pzV (off n : Int) (k : Nat) : Value := .agg #[.int .i64 (pzB off k), .int .i64 (pzA off k), .int .i64 (pzF off n k), .int .i64 (pzF off n (k + 1))]
theorem pz_in {off n : Int} (h0 : 0 ≤ off) (hn : 0 ≤ n) {k : Nat} (hk : k < pzN off n) : 0 ≤ pzF off n k ∧ pzF off n k < n ∧ (off + pzF off n k) % 1024 = pzA off k ∧ (off + pzF off n k) / 1024 = pzB off k ∧ min n (pzF off n k + 1024 - pzA off k) = pzF off n (k + 1) ∧ 0 ≤ pzA off k ∧ pzA off k < 1024 ∧ pzF off n k < pzF off n (k + 1) ∧ pzF off n (k + 1) ≤ n ∧ pzF off n (k + 1) - pzF off n k ≤ 1024 - pzA off k := by
  have a0 := h0
  have a1 := hn
  unfold pzN at hk
  unfold pzF pzA pzB
  split at hk
  · omega
  · rw [if_neg (Nat.succ_ne_zero k)]
    by_cases h : k = 0
    · subst h
      simp only [if_true]
      omega
    · simp only [if_neg h]
      omega
theorem pz_out {off n : Int} (h0 : 0 ≤ off) (hn : 0 ≤ n) : pzF off n (pzN off n) = n := by
  have a0 := h0
  have a1 := hn
  unfold pzN pzF
  split
  · simp only [if_true]; omega
  · rw [if_neg (by omega)]
    omega
theorem pz_lt {off n : Int} (hb : n ≤ 1048576) : pzN off n ≤ 1026 := by
  unfold pzN
  split <;> omega
set_option maxRecDepth 100000 in
theorem pieces_any (w : World) (off n : Int) : Calls Tryz.prog 49 #[.int .i64 off, .int .i64 n] w fun e w' => e = .returned (.func (.func 61) #[] #[.pointer (some ⟨w.heap.size + 1, 0, none⟩), .pointer (some ⟨w.heap.size, 0, none⟩)]) ∧ w' = (w.alloc (.cells #[.int .i64 off] 3)).alloc (.cells #[.int .i64 n] 3) := by
  go_enter Tryz.func49, Tryz.ntmps49
  go_wp2
  go_ret
  exact ⟨rfl, rfl⟩
set_option maxRecDepth 100000 in
set_option maxHeartbeats 4000000 in
theorem pieces1_in (n : Nat) (hn : 1 ≤ n) (l B : Nat) (off cnt : Int) (h0 : 0 ≤ off) (h1 : off ≤ 1099511627776) (h2 : 0 ≤ cnt) (h3 : cnt ≤ 1099511627776) (J : Nat → World → Prop) (Jx : World → Prop) (W : World)
    (hB : ∀ k A, J k A → A.cell? ⟨B, 0, none⟩ = some (.int .i64 off) ∧ A.cell? ⟨B + 1, 0, none⟩ = some (.int .i64 cnt))
    (hY : ∀ k A, J k A → k < pzN off cnt → YieldAt Fence.wide (n - 1) Tryz.prog l #[pzV off cnt k] A fun e W' => (e = .returned (.bool true) ∧ J (k + 1) W') ∨ (e = .returned (.bool false) ∧ Jx W')) (hJ : J 0 W) :
    CallsIn Fence.wide n Tryz.prog 61 #[.func (.yield l) #[] #[], .pointer (some ⟨B + 1, 0, none⟩), .pointer (some ⟨B, 0, none⟩)] W fun e W' => (∃ v, e = .returned v) ∧ (J (pzN off cnt) W' ∨ Jx W') := by
  have HB := Hid.mk hB
  have HY := Hid.mk hY
  clear hB hY
  refine callsIn_of_wp Tryz.func61 rfl trivial ?_ rfl
  simp only [Tryz.ntmps61, List.size_toArray, List.length_cons, List.length_nil, Nat.reduceAdd, Nat.reduceSub, Array.replicate_succ, Array.replicate_zero, List.push_toArray, List.append_toArray, List.nil_append, List.cons_append]
  gi_wp2
  gi_loopw [4] (fun v wr => ∃ k : Nat, Hid (k ≤ pzN off cnt) ∧ v = .int .i64 (pzF off cnt k) ∧ Hid (J k wr)) (fun v _ => (cnt - intOf v).toNat)
  case atStart => exact ⟨0, Hid.mk (by omega), rfl, Hid.mk hJ⟩
  case round =>
    obtain ⟨k, hk, rfl, hJ'⟩ := hrel
    clear hJ
    obtain ⟨c0, c1⟩ := HB.out k wr hJ'.out
    by_cases hlt : k < pzN off cnt
    · obtain ⟨p0, p1, p2, p3, p4, p5, p6, p7, p8, p9⟩ := pz_in h0 h2 hlt
      obtain ⟨fn, tmps, assign, body, hy, hR⟩ := HY.out k wr hJ'.out hlt
      have HR : Hid (RoundIn Fence.wide (n - 1) Tryz.prog l fn tmps assign body wr fun e W' => ∃ b : Bool, e = .returned (.bool b) ∧ Hid ((b = true ∧ J (k + 1) W') ∨ (b = false ∧ Jx W'))) :=
        hR.mono (fun e W' h => h.elim (fun h => ⟨true, h.1, .inl ⟨rfl, h.2⟩⟩) (fun h => ⟨false, h.1, .inr ⟨rfl, h.2⟩⟩))
      unfold pzV at hy
      have HLT := Hid.mk hlt
      obtain ⟨f, hf⟩ : ∃ f, f = pzF off cnt k := ⟨_, rfl⟩
      obtain ⟨f2, hf2⟩ : ∃ f, f = pzF off cnt (k + 1) := ⟨_, rfl⟩
      obtain ⟨a, ha⟩ : ∃ a, a = pzA off k := ⟨_, rfl⟩
      obtain ⟨b, hb⟩ : ∃ b, b = pzB off k := ⟨_, rfl⟩
      rw [← hf] at p0 p1 p2 p3 p4 p7 p9
      rw [← hf2] at p4 p7 p8 p9
      rw [← ha] at p2 p4 p5 p6 p9
      rw [← hb] at p3
      rw [← hf, ← hf2, ← ha, ← hb] at hy
      rw [← hf]
      have HF2 := Hid.mk hf2
      have w1 : IntKind.i64.wrap (off + f) = off + f := by rw [IntKind.wrap_i64]; omega
      have w2 : IntKind.i64.wrap (f + 1024) = f + 1024 := by rw [IntKind.wrap_i64]; omega
      have w3 : IntKind.i64.wrap (f + 1024 - a) = f + 1024 - a := by rw [IntKind.wrap_i64]; omega
      have w4 : IntKind.i64.wrap (off + f) = off + f := by rw [IntKind.wrap_i64]; omega
      have t1 : (off + f).tmod 1024 = a := by rw [Int.tmod_eq_emod_of_nonneg (by omega)]; exact p2
      have t2 : (off + f).tdiv 1024 = b := by rw [Int.tdiv_eq_ediv_of_nonneg (by omega)]; exact p3
      clear hR hJ' hlt hk HB HY hf hf2 ha hb
      gi_wp2_with (first | (refine HR.out.mono ?_; rintro e W4 ⟨bb, rfl, HCC⟩) | (refine ⟨trivial, ?_⟩; refine HR.out.mono ?_; rintro e W4 ⟨bb, rfl, HCC⟩))
      · have hb : bb = false := by
          rename_i h
          simpa using h
        have hx : Jx W4 := by simpa [Hid, hb] using HCC
        refine bodyPost_ret (results_none rfl _ _ _) rfl ?_
        exact ⟨⟨_, rfl⟩, .inr hx⟩
      · have hb : bb = true := by
          rename_i h
          simpa using h
        have hj : J (k + 1) W4 := by simpa [Hid, hb] using HCC
        refine ⟨⟨k + 1, Hid.mk HLT.out, by rw [HF2.out], Hid.mk hj⟩, ?_⟩
        simp only [intOf]
        omega
    · obtain rfl : k = pzN off cnt := by have := hk.out; omega
      have e0 := pz_out (off := off) h0 h2
      rw [e0]
      have hi : ¬ cnt < cnt := by omega
      clear e0 HB HY
      gi_wp2
      go_end0
      exact ⟨⟨_, rfl⟩, .inl hJ'.out⟩
end Go.Proofs.YtehaoeclnmelhacGreat
namespace Go.Proofs.YtehaoeclnmelhacGreat
open Go Go.Proofs Go.RowKit Go.Shelf Go.Sort

/-- A block among the others. -/
def putP (x : Int) (d : List Int) (p : List (Int × List Int)) : List (Int × List Int) := p.filter (fun q => decide (q.1 < x)) ++ (x, d) :: p.filter (fun q => decide (x < q.1))
def getP (p : List (Int × List Int)) (x : Int) : Option (List Int) := (p.find? (fun q => decide (q.1 = x))).map (·.2)
def putR (x : Int) (q : Nat) (p : List (Int × List Int)) (r : List Nat) : List Nat := ((p.zip r).filter (fun e => decide (e.1.1 < x))).map (·.2) ++ q :: ((p.zip r).filter (fun e => decide (x < e.1.1))).map (·.2)
theorem filter_zip {α β : Type} (P : α → Bool) {p : List α} {r : List β} (hl : r.length = p.length) : p.filter P = ((p.zip r).filter (fun e => P e.1)).map (·.1) := by
  induction p generalizing r with
  | nil => rfl
  | cons a p ih =>
    cases r with
    | nil => simp at hl
    | cons b r =>
      have := ih (r := r) (by simpa using hl)
      simp only [List.zip_cons_cons, List.filter_cons]
      split <;> simp [this]
theorem zip_parts {α β : Type} (l : List (α × β)) : (l.map (·.1)).zip (l.map (·.2)) = l := by
  induction l with
  | nil => rfl
  | cons a l ih => simp [ih]
theorem zip_put (x : Int) (d : List Int) (q : Nat) {p : List (Int × List Int)} {r : List Nat} (hl : r.length = p.length) : (putP x d p).zip (putR x q p r) = (p.zip r).filter (fun e => decide (e.1.1 < x)) ++ ((x, d), q) :: (p.zip r).filter (fun e => decide (x < e.1.1)) := by
  unfold putP putR
  rw [filter_zip (fun q => decide (q.1 < x)) hl, filter_zip (fun q => decide (x < q.1)) hl, List.zip_append (by simp)]
  rw [zip_parts, List.zip_cons_cons, zip_parts]
theorem put_len (x : Int) (d : List Int) (q : Nat) {p : List (Int × List Int)} {r : List Nat} (hl : r.length = p.length) : (putR x q p r).length = (putP x d p).length := by
  unfold putP putR
  rw [filter_zip (fun q => decide (q.1 < x)) hl, filter_zip (fun q => decide (x < q.1)) hl]
  simp
theorem find_filter {l : List ((Int × List Int) × Nat)} (y : Int) (P : Int → Bool) : (l.filter (fun e => P e.1.1)).find? (fun e => decide (e.1.1 = y)) = if P y = true then l.find? (fun e => decide (e.1.1 = y)) else none := by
  induction l with
  | nil => simp
  | cons a l ih =>
    simp only [List.filter_cons, List.find?_cons]
    by_cases h : a.1.1 = y
    · subst h
      cases hP : P a.1.1 with
      | true => simp
      | false => simp [ih, hP]
    · cases hP : P a.1.1 with
      | true => simp [h, ih]
      | false => simp [h, ih]
theorem fl_put (x : Int) (d : List Int) (q : Nat) {p : List (Int × List Int)} {r : List Nat} (hl : r.length = p.length) : flF (putP x d p) (putR x q p r) = updF (flF p r) (.int .i64 x) (some (.slice (some ⟨q, 0, none⟩) 1024 1024)) := by
  funext kl
  have hother : ∀ l : Lit, (∀ y, l ≠ .int .i64 y) → flF (putP x d p) (putR x q p r) l = flF p r l := fun l hn => by
    unfold flF
    split
    · rename_i y
      exact absurd rfl (hn y)
    · first
        | rfl
        | (split
           · rename_i y
             exact absurd rfl (hn y)
           · rfl)
  by_cases hk : ∃ y, kl = .int .i64 y
  · obtain ⟨y, rfl⟩ := hk
    have e : ∀ (p' : List (Int × List Int)) (r' : List Nat), flF p' r' (.int .i64 y) = ((p'.zip r').find? (fun q => decide (q.1.1 = y))).map (fun q => .slice (some ⟨q.2, 0, none⟩) 1024 1024) := fun _ _ => rfl
    rw [e, zip_put x d q hl, List.find?_append, find_filter y (fun z => decide (z < x)), List.find?_cons, find_filter y (fun z => decide (x < z))]
    by_cases hy : y = x
    · subst hy
      rw [upd_same]
      simp
    · rw [upd_other _ _ (by simpa using hy), e]
      have hxy : ¬ x = y := fun h => hy h.symm
      by_cases h1 : y < x
      · have h2 : ¬ x < y := by omega
        simp [h1, h2, hxy]
      · have h2 : x < y := by omega
        simp [h1, h2, hxy]
  · have hn : ∀ y, kl ≠ .int .i64 y := fun y h => hk ⟨y, h⟩
    rw [hother kl hn, upd_other _ _ (hn x)]
theorem keys_put (x : Int) (d : List Int) (p : List (Int × List Int)) (y : Int) : y ∈ (putP x d p).map (·.1) ↔ y = x ∨ y ∈ p.map (·.1) := by
  unfold putP
  simp only [List.map_append, List.map_cons, List.mem_append, List.mem_cons, List.mem_map, List.mem_filter, decide_eq_true_eq]
  constructor
  · rintro (⟨a, ⟨h1, _⟩, rfl⟩ | rfl | ⟨a, ⟨h1, _⟩, rfl⟩)
    · exact .inr ⟨a, h1, rfl⟩
    · exact .inl rfl
    · exact .inr ⟨a, h1, rfl⟩
  · rintro (rfl | ⟨a, h1, rfl⟩)
    · exact .inr (.inl rfl)
    · by_cases h : a.1 = x
      · exact .inr (.inl h)
      · by_cases h2 : a.1 < x
        · exact .inl ⟨a, ⟨h1, h2⟩, rfl⟩
        · exact .inr (.inr ⟨a, ⟨h1, by omega⟩, rfl⟩)
theorem put_ok {x : Int} {d : List Int} {p : List (Int × List Int)} (hp : partsOk p) (h0 : 0 ≤ x) (h1 : x < 65800) : partsOk (putP x d p) := by
  refine ⟨?_, fun y hy => ?_⟩
  · unfold putP
    rw [List.map_append, List.map_cons, List.pairwise_append, List.pairwise_cons]
    have hs : ∀ P : Int × List Int → Bool, ((p.filter P).map (·.1)).Pairwise (· < ·) := fun P => hp.1.sublist ((List.filter_sublist).map _)
    refine ⟨hs _, ⟨fun a ha => ?_, hs _⟩, fun a ha b hb => ?_⟩
    · obtain ⟨e, he, rfl⟩ := List.mem_map.1 ha
      simpa using (List.mem_filter.1 he).2
    · obtain ⟨e, he, rfl⟩ := List.mem_map.1 ha
      have h3 : e.1 < x := by simpa using (List.mem_filter.1 he).2
      rcases List.mem_cons.1 hb with rfl | hb
      · exact h3
      · obtain ⟨e', he', rfl⟩ := List.mem_map.1 hb
        have h4 : x < e'.1 := by simpa using (List.mem_filter.1 he').2
        omega
  · unfold putP at hy
    rcases List.mem_append.1 hy with h | h
    · exact hp.2 y (List.mem_filter.1 h).1
    · rcases List.mem_cons.1 h with rfl | h
      · exact ⟨h0, h1⟩
      · exact hp.2 y (List.mem_filter.1 h).1
theorem filter_two {p : List (Int × List Int)} (x : Int) (h : x ∉ p.map (·.1)) : (p.filter (fun q => decide (q.1 < x))).length + (p.filter (fun q => decide (x < q.1))).length = p.length := by
  induction p with
  | nil => rfl
  | cons a p ih =>
    simp only [List.map_cons, List.mem_cons, not_or] at h
    have := ih h.2
    simp only [List.filter_cons]
    by_cases h1 : a.1 < x
    · have h2 : ¬ x < a.1 := by omega
      simp [h1, h2]; omega
    · have h2 : x < a.1 := by omega
      simp [h1, h2]; omega
theorem put_new (x : Int) (d : List Int) {p : List (Int × List Int)} (h : x ∉ p.map (·.1)) : (putP x d p).length = p.length + 1 := by
  have := filter_two x h
  unfold putP
  simp only [List.length_append, List.length_cons]
  omega
theorem put_old (x : Int) (d : List Int) {p : List (Int × List Int)} (hp : (p.map (·.1)).Pairwise (· < ·)) (h : x ∈ p.map (·.1)) : (putP x d p).length = p.length := by
  induction p with
  | nil => simp at h
  | cons a p ih =>
    simp only [List.map_cons, List.pairwise_cons] at hp
    simp only [List.map_cons, List.mem_cons] at h
    by_cases h1 : a.1 = x
    · have hno : x ∉ p.map (·.1) := fun hm => by have := hp.1 x hm; omega
      have := filter_two x hno
      unfold putP
      have h2 : ¬ a.1 < x := by omega
      have h3 : ¬ x < a.1 := by omega
      simp only [List.filter_cons, h2, h3, decide_false, Bool.false_eq_true, if_false, List.length_append, List.length_cons]
      omega
    · have hm : x ∈ p.map (·.1) := h.resolve_left (fun e => h1 e.symm)
      have := ih hp.2 hm
      have h2 : a.1 < x := hp.1 x hm
      have h3 : ¬ x < a.1 := by omega
      unfold putP at this ⊢
      simp only [List.filter_cons, h2, h3, decide_true, decide_false, Bool.false_eq_true, if_false, if_true, List.length_append, List.length_cons] at this ⊢
      omega
/-- What a file's blocks are in memory: a map, and a row for each. -/
structure PtAt (W : World) (m : Nat) (r : List Nat) (p : List (Int × List Int)) : Prop where
  blocks : MAt W 3 m p.length (flF p r)
  len : r.length = p.length
  rows : ∀ e ∈ p.zip r, W.heap[e.2]? = some (.cells (By e.1.2).toArray 5 (0, 0)) ∧ e.1.2.length = 1024
  ok : partsOk p
  nd : (m :: r).Nodup
theorem zip_all {α β : Type} {φ : α → β → Prop} {p : List α} {r : List β} (h : ∀ e ∈ p.zip r, φ e.1 e.2) (i : Nat) (x : α) (q : β) (hx : p[i]? = some x) (hq : r[i]? = some q) : φ x q := by
  have : (p.zip r)[i]? = some (x, q) := by rw [List.getElem?_zip_eq_some]; exact ⟨hx, hq⟩
  exact h _ (List.mem_of_getElem? this)
theorem all_zip {α β : Type} {φ : α → β → Prop} {p : List α} {r : List β} (h : ∀ (i : Nat) (x : α) (q : β), p[i]? = some x → r[i]? = some q → φ x q) : ∀ e ∈ p.zip r, φ e.1 e.2 := by
  intro e he
  obtain ⟨i, hi⟩ := List.mem_iff_getElem?.1 he
  rw [List.getElem?_zip_eq_some] at hi
  exact h i _ _ hi.1 hi.2
theorem FlAt.parts {W : World} {b m : Nat} {r : List Nat} {l z : Int} {p : List (Int × List Int)} (h : FlAt W b m r l z p) (hp : partsOk p) (hn : (m :: r).Nodup) : PtAt W m r p :=
  ⟨h.blocks, h.len, all_zip h.rows, hp, hn⟩
theorem PtAt.file {W : World} {b m : Nat} {r : List Nat} {l z : Int} {p : List (Int × List Int)} (h : PtAt W m r p) (hb : W.heap[b]? = some (.cells #[.int .i64 1, .int .i64 l, .int .i64 z, .map (some m), .slice none 0 0, .map none] 62 (0, 0))) : FlAt W b m r l z p :=
  ⟨hb, h.blocks, h.len, zip_all h.rows⟩
theorem PtAt.kept {W W' : World} {m : Nat} {r : List Nat} {p : List (Int × List Int)} (h : PtAt W m r p) (hk : ∀ k ∈ m :: r, W'.heap[k]? = W.heap[k]?) : PtAt W' m r p :=
  ⟨h.blocks.kept (hk m (by simp)), h.len, fun e he => ⟨(hk e.2 (by have := (List.of_mem_zip he).2; simp [this])).trans (h.rows e he).1, (h.rows e he).2⟩, h.ok, h.nd⟩
/-- Where a block is, and where none is. -/
theorem PtAt.get {W : World} {m : Nat} {r : List Nat} {p : List (Int × List Int)} (h : PtAt W m r p) (x : Int) : (getP p x = none ∧ x ∉ p.map (·.1) ∧ flF p r (.int .i64 x) = none) ∨ ∃ d q, getP p x = some d ∧ x ∈ p.map (·.1) ∧ flF p r (.int .i64 x) = some (.slice (some ⟨q, 0, none⟩) 1024 1024) ∧ ((x, d), q) ∈ p.zip r := by
  have hl := h.len
  have hg : getP p x = ((p.zip r).find? (fun q => decide (q.1.1 = x))).map (fun q => q.1.2) := by
    clear h
    unfold getP
    induction p generalizing r with
    | nil => rfl
    | cons a p ih =>
      cases r with
      | nil => simp at hl
      | cons b r =>
        have := ih (r := r) (by simpa using hl)
        simp only [List.zip_cons_cons, List.find?_cons]
        by_cases e : a.1 = x
        · simp [e]
        · simp only [decide_eq_false e]
          exact this
  have hf : flF p r (.int .i64 x) = ((p.zip r).find? (fun q => decide (q.1.1 = x))).map (fun q => .slice (some ⟨q.2, 0, none⟩) 1024 1024) := rfl
  have hm := fl_mem hl x
  cases hc : (p.zip r).find? (fun q => decide (q.1.1 = x)) with
  | none =>
    rw [hc] at hg hf
    left
    refine ⟨hg, fun hx => ?_, hf⟩
    rw [hf] at hm
    simp [hx] at hm
  | some e =>
    rw [hc] at hg hf
    have h1 := List.find?_some hc
    have h2 := List.mem_of_find?_eq_some hc
    simp only [decide_eq_true_eq] at h1
    subst h1
    right
    refine ⟨e.1.2, e.2, hg, ?_, hf, h2⟩
    rw [hf] at hm
    simpa using hm.symm
/-- One more block, or another one in its place, in a row q that is none of the others'. -/
theorem PtAt.put {W W' : World} {m q : Nat} {r : List Nat} {p : List (Int × List Int)} (h : PtAt W m r p) {x : Int} {d : List Int} (h0 : 0 ≤ x) (h1 : x < 65800) (hd : d.length = 1024) (hb : MAt W' 3 m (putP x d p).length (updF (flF p r) (.int .i64 x) (some (.slice (some ⟨q, 0, none⟩) 1024 1024)))) (hq : W'.heap[q]? = some (.cells (By d).toArray 5 (0, 0)))
    (hk : ∀ e ∈ p.zip r, e.1.1 ≠ x → W'.heap[e.2]? = W.heap[e.2]?) (hf : ∀ e ∈ p.zip r, e.1.1 ≠ x → e.2 ≠ q) (hm : m ≠ q) : PtAt W' m (putR x q p r) (putP x d p) := by
  refine ⟨by rw [fl_put x d q h.len]; exact hb, put_len x d q h.len, fun e he => ?_, put_ok h.ok h0 h1, ?_⟩
  · rw [zip_put x d q h.len] at he
    rcases List.mem_append.1 he with he | he
    · obtain ⟨h2, h3⟩ := List.mem_filter.1 he
      simp only [decide_eq_true_eq] at h3
      exact ⟨(hk e h2 (by omega)).trans (h.rows e h2).1, (h.rows e h2).2⟩
    · rcases List.mem_cons.1 he with rfl | he
      · exact ⟨hq, hd⟩
      · obtain ⟨h2, h3⟩ := List.mem_filter.1 he
        simp only [decide_eq_true_eq] at h3
        exact ⟨(hk e h2 (by omega)).trans (h.rows e h2).1, (h.rows e h2).2⟩
  · have hz : ((p.zip r).map (·.2)).Nodup := by
      rw [List.map_snd_zip (by have := h.len; omega)]
      exact (List.nodup_cons.1 h.nd).2
    have hzr : ∀ e ∈ p.zip r, e.2 ∈ r := fun e he => (List.of_mem_zip he).2
    have hpart : ((p.zip r).filter (fun e => decide (e.1.1 < x)) ++ (p.zip r).filter (fun e => decide (x < e.1.1))).map (·.2) |>.Nodup := by
      rw [List.map_append, List.nodup_append]
      refine ⟨hz.sublist ((List.filter_sublist).map _), hz.sublist ((List.filter_sublist).map _), fun a ha b hb e => ?_⟩
      obtain ⟨u, hu, rfl⟩ := List.mem_map.1 ha
      obtain ⟨v, hv, rfl⟩ := List.mem_map.1 hb
      obtain ⟨u1, u2⟩ := List.mem_filter.1 hu
      obtain ⟨v1, v2⟩ := List.mem_filter.1 hv
      simp only [decide_eq_true_eq] at u2 v2
      obtain ⟨i, hi, ei⟩ := List.getElem_of_mem u1
      obtain ⟨j, hj, ej⟩ := List.getElem_of_mem v1
      have hij : i = j := by
        have hpw := List.pairwise_iff_getElem.1 hz
        rcases Nat.lt_trichotomy i j with h' | h' | h'
        · exact absurd (show ((p.zip r).map (·.2))[i]'(by simpa using hi) = ((p.zip r).map (·.2))[j]'(by simpa using hj) by simp only [List.getElem_map, ei, ej]; exact e) (hpw i j (by simpa using hi) (by simpa using hj) h')
        · exact h'
        · exact absurd (show ((p.zip r).map (·.2))[j]'(by simpa using hj) = ((p.zip r).map (·.2))[i]'(by simpa using hi) by simp only [List.getElem_map, ei, ej]; exact e.symm) (hpw j i (by simpa using hj) (by simpa using hi) h')
      subst hij
      rw [ei] at ej
      subst ej
      omega
    unfold putR
    rw [List.nodup_cons]
    have hmr := (List.nodup_cons.1 h.nd).1
    have hnm : ∀ P : (Int × List Int) × Nat → Bool, m ∉ ((p.zip r).filter P).map (·.2) := fun P hm' => by
      obtain ⟨e, he, rfl⟩ := List.mem_map.1 hm'
      exact hmr (hzr e (List.mem_filter.1 he).1)
    have hnq : ∀ P : (Int × List Int) × Nat → Bool, (∀ e, P e = true → e.1.1 ≠ x) → q ∉ ((p.zip r).filter P).map (·.2) := fun P hP hq' => by
      obtain ⟨e, he, e2⟩ := List.mem_map.1 hq'
      obtain ⟨h2, h3⟩ := List.mem_filter.1 he
      exact hf e h2 (hP e h3) e2
    have hlt := hnq (fun e => decide (e.1.1 < x)) (fun e he => by simp only [decide_eq_true_eq] at he; omega)
    have hgt := hnq (fun e => decide (x < e.1.1)) (fun e he => by simp only [decide_eq_true_eq] at he; omega)
    refine ⟨fun hmm => ?_, ?_⟩
    · rcases List.mem_append.1 hmm with h2 | h2
      · exact hnm _ h2
      · rcases List.mem_cons.1 h2 with h2 | h2
        · exact hm h2
        · exact hnm _ h2
    · rw [List.map_append] at hpart
      rw [List.nodup_append] at hpart ⊢
      refine ⟨hpart.1, List.nodup_cons.2 ⟨hgt, hpart.2.1⟩, fun a ha b hb e => ?_⟩
      rcases List.mem_cons.1 hb with rfl | hb
      · exact hlt (e ▸ ha)
      · exact hpart.2.2 a ha b hb e
theorem putR_mem {x : Int} {q : Nat} {p : List (Int × List Int)} {r : List Nat} {k : Nat} (h : k ∈ putR x q p r) : k = q ∨ k ∈ r := by
  unfold putR at h
  rcases List.mem_append.1 h with h | h
  · obtain ⟨e, he, rfl⟩ := List.mem_map.1 h
    exact .inr (List.of_mem_zip (List.mem_filter.1 he).1).2
  · rcases List.mem_cons.1 h with h | h
    · exact .inl h
    · obtain ⟨e, he, rfl⟩ := List.mem_map.1 h
      exact .inr (List.of_mem_zip (List.mem_filter.1 he).1).2
end Go.Proofs.YtehaoeclnmelhacGreat
namespace Go.Proofs.YtehaoeclnmelhacGreat
open Go Go.Proofs Go.RowKit Go.Shelf
attribute [local go_sem] Oper.semAt_some

/-- The blocks that the first k runs meet, and that the file has not. -/
def missK (off : Int) (p : List (Int × List Int)) (k : Nat) : List Int := ((List.range k).map (pzB off)).filter (fun x => decide (x ∉ p.map (·.1)))
def fillN (off cnt : Int) (p : List (Int × List Int)) : Int := if missK off p (pzN off cnt) = [] then 0 else roomL (p.map (·.1) ++ missK off p (pzN off cnt)) - roomL (p.map (·.1))
theorem miss_succ (off : Int) (p : List (Int × List Int)) (k : Nat) : missK off p (k + 1) = missK off p k ++ (if pzB off k ∈ p.map (·.1) then [] else [pzB off k]) := by
  unfold missK
  rw [List.range_succ, List.map_append, List.filter_append]
  congr 1
  simp only [List.map_cons, List.map_nil, List.filter_cons, List.filter_nil]
  by_cases h : pzB off k ∈ p.map (·.1)
  · rw [if_pos h, decide_eq_false (fun h' => h' h)]; rfl
  · rw [if_neg h, decide_eq_true h]; rfl
theorem miss_len (off : Int) (p : List (Int × List Int)) (k : Nat) : (missK off p k).length ≤ k := by
  unfold missK
  refine Nat.le_trans (List.length_filter_le _ _) ?_
  simp
/-- append(has, xs...) leaves what 'has' tells. -/
theorem appi_keepL (W : World) (B : Nat) (ao : Option Addr) (n c : Nat) (xs : List Int) (hown : W.ownsRow B 3 1 (.slice ao n c) n (Iy xs)) (hB : B ≤ W.heap.size) (a : Addr) (m c2 : Nat) (ys : List Int) (hy : LAt W (some a) m ys) (hm : 0 < m) (hn : n + m ≤ 16777216) :
    ∃ bo c3 W', (Builtin.append_ #[40, 40] 40 #[.slice ao n c, .slice (some a) m c2]).run Tryz.prog W = .ok (.slice bo (n + m) c3) W' ∧ LAt W' bo (n + m) (xs ++ ys) ∧ LAt W' ao n xs ∧ Below B W W' := by
  obtain ⟨v', W', hr, h2, h3⟩ := appendi_run W B _ n xs hown hB a m c2 ys hy hn
  obtain ⟨bo, c3, rfl, hl⟩ := owns_lat h2
  refine ⟨bo, c3, W', hr, hl, ?_, h3⟩
  have hlen : xs.length = n := by have := hown.1; rw [Iy_length] at this; omega
  refine ⟨hlen, fun hpos => ?_⟩
  obtain ⟨i0, hi, hz0, hz1, hz2⟩ := info3p
  have hnews : ∀ (j : Nat) (u : Value), (Iy ys)[j]? = some u → W.cell? (a.add j) = some u := fun j u hj => by
    have hjl := (List.getElem?_eq_some_iff.1 hj).1
    rw [Iy_length] at hjl
    rw [Iy_get ys j hjl] at hj
    obtain ⟨a', e, hc⟩ := hy.at j (by rw [← hy.1]; exact hjl)
    cases e
    rw [hc]
    exact hj
  rcases hown.2 with ⟨hv, h0⟩ | ⟨g, cap, cur, hv, hg, hh, hnc, hcm, hcs, htake⟩
  · omega
  · cases hv
    have get : ∀ k, k < n → cur[k]? = some (.int .i64 (xs.getD k 0)) := fun k hk => by
      rw [← Array.getElem?_toList]
      have : (cur.toList.take (n * 1))[k]? = (Iy xs)[k]? := by rw [htake]
      rw [List.getElem?_take, if_pos (by omega)] at this
      rw [this]
      simp [Iy, List.getD, List.getElem?_eq_getElem (show k < xs.length by omega)]
    by_cases hroom : n + m ≤ c
    · obtain ⟨w', hr', hf, hg'⟩ := run_append_fits (P := Tryz.prog) W 0 40 40 3 i0 1 Tryz.underlying40 hi hz1 g n c (Iy xs) (owns_base hown (Nat.zero_le _)) a m c2 (Iy ys) (by rw [Iy_length, hy.1, Nat.mul_one]) hnews (Iy_one _) hroom
      rw [hr] at hr'
      simp only [Result.ok.injEq] at hr'
      obtain ⟨e1, rfl⟩ := hr'
      cases e1
      obtain ⟨a2, ea, hlt, hc⟩ := hl.2 (by omega)
      cases ea
      refine ⟨_, rfl, hlt, fun k hk => ?_⟩
      rw [hc k (by omega)]
      simp [List.getD, List.getElem?_append_left (show k < xs.length by omega)]
    · obtain ⟨v', w', hr', hf, hg'⟩ := run_append_arg_grows (P := Tryz.prog) W 40 40 3 i0 (.int .i64 0) 1 8 Tryz.underlying40 hi hz0 hz1 hz2 rfl (by decide) ⟨g, 0, none⟩ n c (Iy xs) hown.1 (hown.cells rfl) a m c2 (Iy ys) (by rw [Iy_length, hy.1, Nat.mul_one]) hnews (by omega) (by unfold maxLen; omega) (by omega)
      rw [hr] at hr'
      simp only [Result.ok.injEq] at hr'
      obtain ⟨e1, rfl⟩ := hr'
      have hk := (hg'.block g (lt_of_block hh) (by simp)).trans hh
      refine ⟨_, rfl, lt_of_block hk, fun k hk' => ?_⟩
      rw [add_at, blk_cell hk, Nat.zero_add]
      exact get k hk'
/-- Between two rounds. -/
structure FiI (w : World) (b : Nat) (off cnt : Int) (p : List (Int × List Int)) (k : Nat) (W : World) : Prop where
  r0 : W.heap[w.heap.size]? = some (.cells #[.pointer (some ⟨b, 0, none⟩)] 49 (0, 0))
  out : ∃ v, W.heap[w.heap.size + 1]? = some (.cells #[v] 40 (0, 0)) ∧ W.ownsRow (w.heap.size + 6) 3 1 v (missK off p k).length (Iy (missK off p k))
  r2 : W.heap[w.heap.size + 2]? = some (.cells #[.int .i64 off] 3 (0, 0))
  r3 : W.heap[w.heap.size + 3]? = some (.cells #[.int .i64 cnt] 3 (0, 0))
  below : Below w.heap.size w W
  size : w.heap.size + 4 ≤ W.heap.size
theorem FiI_own {w : World} {b : Nat} {off cnt : Int} {p : List (Int × List Int)} (k : Nat) (A B : World) (row : Option Nat) (h : FiI w b off cnt p k A) (hg : A.grownBy B row) (hr : ∀ r, row = some r → r = w.heap.size + 5) : FiI w b off cnt p k B := by
  have hs := h.size
  have hk : ∀ q, q < A.heap.size → q ≠ w.heap.size + 5 → B.heap[q]? = A.heap[q]? := fun q hq hne => hg.block q hq (fun e => hne (hr q e.symm))
  obtain ⟨v, h1, h2⟩ := h.out
  exact ⟨(hk _ (by omega) (by omega)).trans h.r0, ⟨v, (hk _ (by omega) (by omega)).trans h1, owns_at h2 (fun j e => hk j (h2.lt j e).2 (by have := (h2.lt j e).1; omega))⟩, (hk _ (by omega) (by omega)).trans h.r2, (hk _ (by omega) (by omega)).trans h.r3, h.below.grown hg h.below.size (fun r e => by have := hr r e; omega), Nat.le_trans hs hg.size⟩
/-- A piece's box. -/
def pzO (off cnt : Int) (k : Nat) : Obj := .cells #[.int .i64 (pzB off k), .int .i64 (pzA off k), .int .i64 (pzF off cnt k), .int .i64 (pzF off cnt (k + 1))] 85
theorem alloc_grown (W : World) (o : Obj) : W.grownBy (W.alloc o) none := ⟨rfl, rfl, rfl, by simp, fun k hk _ => Below.heap_alloc _ _ _ hk⟩
theorem zero_bytes (W : World) : (zeroValue 28).run Tryz.prog W = .ok (.slice none 0 0) W := by kernel_rfl
set_option maxRecDepth 100000 in
set_option maxHeartbeats 4000000 in
theorem filling_any (w : World) (b m : Nat) (r : List Nat) (l z : Int) (p : List (Int × List Int)) (h : FlAt w b m r l z p) (hp : partsOk p) (hpn : p.length ≤ 70000) (off cnt : Int) (h0 : 0 ≤ off) (h1 : off ≤ 67379200) (h2 : 0 ≤ cnt) (h3 : cnt ≤ 8192) :
    Calls Tryz.prog 50 #[ptrV b, .int .i64 off, .int .i64 cnt] w fun e w' => e = .returned (.int .i64 (fillN off cnt p)) ∧ Below w.heap.size w w' := by
  have mixed : Tryz.prog.follows Departure.mixedOrders = true := by kernel_rfl
  have HH := Hid.mk h
  have HP := Hid.mk hp
  have HB0 := Hid.mk (And.intro h0 (And.intro h1 (And.intro h2 h3)))
  have HNN : Hid (pzN off cnt ≤ 1026) := Hid.mk (pz_lt (by omega))
  clear h hp
  unfold ptrV
  refine (callsIn_wide (n := 5)).1 ?_
  refine callsIn_of_wp_marks Tryz.func50 rfl trivial ?_ rfl
  simp only [Tryz.ntmps50, List.size_toArray, List.length_cons, List.length_nil, Nat.reduceAdd, Nat.reduceSub, Array.replicate_succ, Array.replicate_zero, List.push_toArray, List.append_toArray, List.nil_append, List.cons_append]
  gi_wp2_with (refine ⟨trivial, ?_⟩; gi_at_call 49; refine (callsIn_wide.2 (pieces_any _ off cnt)).mono ?_; rintro e w3 ⟨rfl, hw3⟩)
  obtain ⟨W0, hW0⟩ : ∃ W0, W0 = (w.alloc (.cells #[.pointer (some ⟨b, 0, none⟩)] 49)).alloc (.cells #[.slice none 0 0] 40) := ⟨_, rfl⟩
  have hs0 : W0.heap.size = w.heap.size + 2 := by rw [hW0]; simp
  have z0 : W0.heap[w.heap.size]? = some (.cells #[.pointer (some ⟨b, 0, none⟩)] 49 (0, 0)) := by rw [hW0, Below.heap_alloc _ _ _ (by simp)]; exact blk_new w _
  have z1 : W0.heap[w.heap.size + 1]? = some (.cells #[.slice none 0 0] 40 (0, 0)) := by
    rw [hW0]
    have := blk_new (w.alloc (.cells #[.pointer (some ⟨b, 0, none⟩)] 49)) (.cells #[.slice none 0 0] 40)
    rwa [World.size_alloc] at this
  have zb : Below w.heap.size w W0 := by rw [hW0]; exact ((Below.refl _ w).alloc (Nat.le_refl _) _).alloc (by simp) _
  try rw [← hW0] at hw3
  have e0 : w3.heap[w.heap.size]? = some (.cells #[.pointer (some ⟨b, 0, none⟩)] 49 (0, 0)) := by rw [hw3, Below.heap_alloc _ _ _ (by simp; omega), Below.heap_alloc _ _ _ (by omega)]; exact z0
  have e1 : w3.heap[w.heap.size + 1]? = some (.cells #[.slice none 0 0] 40 (0, 0)) := by rw [hw3, Below.heap_alloc _ _ _ (by simp; omega), Below.heap_alloc _ _ _ (by omega)]; exact z1
  have e2 : w3.heap[w.heap.size + 2]? = some (.cells #[.int .i64 off] 3 (0, 0)) := by rw [hw3, Below.heap_alloc _ _ _ (by simp; omega), ← hs0]; exact blk_new W0 _
  have e3 : w3.heap[w.heap.size + 3]? = some (.cells #[.int .i64 cnt] 3 (0, 0)) := by
    rw [hw3]
    have := blk_new (W0.alloc (.cells #[.int .i64 off] 3)) (.cells #[.int .i64 cnt] 3)
    rwa [World.size_alloc, hs0] at this
  have es : w3.heap.size = w.heap.size + 4 := by rw [hw3]; simp [hs0]
  have eb : Below w.heap.size w w3 := by rw [hw3]; exact (zb.alloc zb.size _).alloc (by simp; omega) _
  have hI0 : FiI w b off cnt p 0 w3 := ⟨e0, ⟨_, e1, by simpa [missK, Iy] using World.ownsRow_nil _ _ _ _⟩, e2, e3, eb, by omega⟩
  clear z0 z1 zb e0 e1 e2 e3 eb
  simp only [← hW0]
  rw [← hw3]
  try simp only [hs0]
  clear hW0 hw3 hs0
  refine wpIn_range_kx (gf := 61) (lb := #[.pointer (some ⟨w.heap.size + 2 + 1, 0, none⟩), .pointer (some ⟨w.heap.size + 2, 0, none⟩)]) rfl (enters_of Tryz.func61 (by kernel_rfl) rfl) (pzN off cnt) (fun k => #[pzV off cnt k]) (fun _ => rfl)
    (FiI w b off cnt p) (fun _ => False) (fun k A B row h hg hr => FiI_own k A B row h hg (fun r e => by have := hr r e; omega)) (fun _ _ _ h _ _ => h.elim) hI0 ?hit
    (fun k W => { tmps := #[.pointer (some ⟨b, 0, none⟩), .int .i64 off, .int .i64 cnt, .pointer (some ⟨w.heap.size, 0, none⟩), undef, undef, .int .i64 0, .pointer (some ⟨w.heap.size + 1, 0, none⟩), .pointer (some ⟨W.heap.size, 0, none⟩), undef, undef, undef, .int .i64 off, .int .i64 cnt, .func (.func 61) #[] #[.pointer (some ⟨w.heap.size + 2 + 1, 0, none⟩), .pointer (some ⟨w.heap.size + 2, 0, none⟩)], pzV off cnt k, undef, undef, undef, undef, undef, undef, undef, undef, undef, undef, undef, undef, undef, undef, undef, undef, undef, undef, undef, undef, undef, undef, undef, undef, undef, undef, undef, undef, undef], defers := [] })
    (fun k W => W.alloc (pzO off cnt k)) (fun k W => alloc_grown W _) ?assign ?body ?done ?stop
  case hit =>
    intro l J Jx W hJI hg hY h0'
    exact pieces1_in 4 (by omega) l (w.heap.size + 2) off cnt HB0.out.1 (by have := HB0.out; omega) HB0.out.2.2.1 (by have := HB0.out; omega) J Jx W (fun k A hJ => ⟨by rw [blk_cell (hJI k A hJ).r2]; rfl, by rw [blk_cell (hJI k A hJ).r3]; rfl⟩) hY h0'
  case assign =>
    intro l k W K hK
    unfold pzO at hK
    unfold pzV at hK ⊢
    generalize pzB off k = x1 at *
    generalize pzA off k = x2 at *
    generalize pzF off cnt k = x3 at *
    generalize pzF off cnt (k + 1) = x4 at *
    gi_wp2
    exact hK
  case body =>
    intro lp k W W2 hI hk hsz hg2 hs2
    have hIa := FiI_own k W (W.alloc (pzO off cnt k)) none hI (alloc_grown W _) (by simp)
    have hI2 := FiI_own k _ W2 _ hIa hg2 (fun r e => by have := Option.some.inj e; omega)
    have hbx : W2.heap[W.heap.size]? = some (pzO off cnt k) := (hg2.block W.heap.size (by simp) (fun e => by have := Option.some.inj e; omega)).trans (blk_new W _)
    have hsz2 : w.heap.size + 6 ≤ W2.heap.size := by rw [hs2]; simp; omega
    obtain ⟨x, hx⟩ : ∃ x, x = pzB off k := ⟨_, rfl⟩
    have hxb : 0 ≤ x ∧ x ≤ 70000 := by
      obtain ⟨p0, p1, p2, p3, p4, p5, p6, p7, p8, p9⟩ := pz_in HB0.out.1 HB0.out.2.2.1 hk
      have := HB0.out
      rw [hx, ← p3]
      omega
    have hf2 := HH.out.kept (W' := W2.drew) (fun q hq => hI2.below.block q (NdAt.lt (loc := fun _ => 0) (L := .file b m r) (d := .file l z p) HH.out q hq))
    have c3 := blk_cell hf2.node 3
    have c0 := blk_cell (w := W2.drew) hI2.r0 0
    unfold pzO at hbx
    have cx := blk_cell (w := W2.drew) hbx 0
    simp at c0 c3 cx
    rw [← hx] at cx
    have hlk := hf2.blocks.look2 keyed3 Tryz.underlying60 (zero_bytes W2.drew) (Maps.keyOf_int_mk Tryz.underlying3 (okI_of (a := x) (by omega) (by omega)))
    have hmem := fl_mem hf2.len x
    have hsucc := miss_succ off p k
    rw [← hx] at hsucc
    have HI2 := Hid.mk hI2
    have HSZ2 := Hid.mk hsz2
    have HKN : Hid (k < 1026) := Hid.mk (by have := HNN.out; omega)
    have HL3 := Hid.mk es
    have HCX := Hid.mk cx
    unfold pzV
    rw [← hx]
    generalize pzA off k = x2 at *
    generalize pzF off cnt k = x3 at *
    generalize pzF off cnt (k + 1) = x4 at *
    generalize W.heap.size = bx at *
    clear hIa hI2 hbx hsz2 hf2 hg2 hs2 hI hsz hk es hxb hx hI0
    cases hc : flF p r (.int .i64 x) with
    | none =>
      rw [hc] at hlk hmem
      have hno : x ∉ p.map (·.1) := by simpa using hmem
      rw [if_neg hno] at hsucc
      simp only [Option.getD_none, Option.isSome_none] at hlk
      clear hmem hno hc
      have HS0 : Hid (W2.drew.cell? ⟨w.heap.size, 0, none⟩ = some (.pointer (some ⟨b, 0, none⟩)) ∧ W2.drew.cell? ⟨b, 3, none⟩ = some (.map (some m)) ∧ W2.drew.cell? ⟨bx, 0, none⟩ = some (.int .i64 x) ∧ (Instr.lookup 60 (.map (some m)) (.int .i64 x) true).run Tryz.prog W2.drew = .ok (.tuple #[.slice none 0 0, .bool false]) W2.drew) := Hid.mk ⟨c0, c3, cx, hlk⟩
      gi_wp2_with fail
      refine round_region_held (S := fun W => W.cell? ⟨w.heap.size, 0, none⟩ = some (.pointer (some ⟨b, 0, none⟩)) ∧ W.cell? ⟨b, 3, none⟩ = some (.map (some m)) ∧ W.cell? ⟨bx, 0, none⟩ = some (.int .i64 x) ∧ (Instr.lookup 60 (.map (some m)) (.int .i64 x) true).run Tryz.prog W = .ok (.tuple #[.slice none 0 0, .bool false]) W) (by kernel_rfl) (by kernel_rfl) HS0.out (fun hH => ?_)
      change wpAnyH Tryz.prog Region.Mode.any _ _ _ 12 _ _ _
      refine takeH 0 17 (.pointer (some ⟨b, 0, none⟩)) rfl (by kernel_rfl) (by kernel_rfl) (by kernel_rfl) (by kernel_rfl) (fun _ _ _ h => h) (by kernel_rfl) (fun w hw => by (try dsimp only at hw); obtain ⟨hw1, hw2, hw3, hw4⟩ := hw; go_simp) hH ?_
      simp only [List.setIfInBounds_toArray, List.set_cons_zero, List.set_cons_succ]
      refine takeH 1 18 (.pointer (some ⟨b, 0, none⟩)) rfl (by kernel_rfl) (by kernel_rfl) (by kernel_rfl) (by kernel_rfl) (fun _ _ _ h => h) (by kernel_rfl) (fun w hw => by (try dsimp only at hw); obtain ⟨hw1, hw2, hw3, hw4⟩ := hw; go_simp) hH ?_
      simp only [List.setIfInBounds_toArray, List.set_cons_zero, List.set_cons_succ]
      refine takeH 2 19 (.pointer (some ⟨b, 3, none⟩)) rfl (by kernel_rfl) (by kernel_rfl) (by kernel_rfl) (by kernel_rfl) (fun _ _ _ h => h) (by kernel_rfl) (fun w hw => by (try dsimp only at hw); obtain ⟨hw1, hw2, hw3, hw4⟩ := hw; go_simp) hH ?_
      simp only [List.setIfInBounds_toArray, List.set_cons_zero, List.set_cons_succ]
      refine takeH 3 20 (.map (some m)) rfl (by kernel_rfl) (by kernel_rfl) (by kernel_rfl) (by kernel_rfl) (fun _ _ _ h => h) (by kernel_rfl) (fun w hw => by (try dsimp only at hw); obtain ⟨hw1, hw2, hw3, hw4⟩ := hw; go_simp) hH ?_
      simp only [List.setIfInBounds_toArray, List.set_cons_zero, List.set_cons_succ]
      refine takeH 4 21 (.pointer (some ⟨bx, 0, none⟩)) rfl (by kernel_rfl) (by kernel_rfl) (by kernel_rfl) (by kernel_rfl) (fun _ _ _ h => h) (by kernel_rfl) (fun w hw => by (try dsimp only at hw); obtain ⟨hw1, hw2, hw3, hw4⟩ := hw; go_simp) hH ?_
      simp only [List.setIfInBounds_toArray, List.set_cons_zero, List.set_cons_succ]
      refine takeH 5 22 (.int .i64 x) rfl (by kernel_rfl) (by kernel_rfl) (by kernel_rfl) (by kernel_rfl) (fun _ _ _ h => h) (by kernel_rfl) (fun w hw => by (try dsimp only at hw); obtain ⟨hw1, hw2, hw3, hw4⟩ := hw; go_simp) hH ?_
      simp only [List.setIfInBounds_toArray, List.set_cons_zero, List.set_cons_succ]
      refine takeH 6 23 (.tuple #[.slice none 0 0, .bool false]) rfl (by kernel_rfl) (by kernel_rfl) (by kernel_rfl) (by kernel_rfl) (fun _ _ _ h => h) (by kernel_rfl) (fun w hw => by (try dsimp only at hw); obtain ⟨hw1, hw2, hw3, hw4⟩ := hw; go_simp) hH ?_
      simp only [List.setIfInBounds_toArray, List.set_cons_zero, List.set_cons_succ]
      refine takeH 7 16 (.tuple #[.slice none 0 0, .bool false]) rfl (by kernel_rfl) (by kernel_rfl) (by kernel_rfl) (by kernel_rfl) (fun _ _ _ h => h) (by kernel_rfl) (fun w hw => by kernel_rfl) hH ?_
      simp only [List.setIfInBounds_toArray, List.set_cons_zero, List.set_cons_succ]
      refine takeH 8 24 (.slice none 0 0) rfl (by kernel_rfl) (by kernel_rfl) (by kernel_rfl) (by kernel_rfl) (fun _ _ _ h => h) (by kernel_rfl) (fun w hw => by (try dsimp only at hw); obtain ⟨hw1, hw2, hw3, hw4⟩ := hw; go_simp) hH ?_
      simp only [List.setIfInBounds_toArray, List.set_cons_zero, List.set_cons_succ]
      refine takeH 9 25 (.bool false) rfl (by kernel_rfl) (by kernel_rfl) (by kernel_rfl) (by kernel_rfl) (fun _ _ _ h => h) (by kernel_rfl) (fun w hw => by (try dsimp only at hw); obtain ⟨hw1, hw2, hw3, hw4⟩ := hw; go_simp) hH ?_
      simp only [List.setIfInBounds_toArray, List.set_cons_zero, List.set_cons_succ]
      refine takeH 10 9 (.slice none 0 0) rfl (by kernel_rfl) (by kernel_rfl) (by kernel_rfl) (by kernel_rfl) (fun _ _ _ h => h) (by kernel_rfl) (fun w hw => by kernel_rfl) hH ?_
      simp only [List.setIfInBounds_toArray, List.set_cons_zero, List.set_cons_succ]
      refine takeH 11 10 (.bool false) rfl (by kernel_rfl) (by kernel_rfl) (by kernel_rfl) (by kernel_rfl) (fun _ _ _ h => h) (by kernel_rfl) (fun w hw => by kernel_rfl) hH ?_
      simp only [List.setIfInBounds_toArray, List.set_cons_zero, List.set_cons_succ]
      refine wpAnyH_done (by kernel_rfl) ?_ _
      dsimp only [Norm]
      clear hH HS0 c0 c3 cx hlk
      obtain ⟨v, hv, hown⟩ := HI2.out.out
      have hsz2 := HSZ2.out
      obtain ⟨v', W5, hr, ho5, hb5⟩ := appi_one W2.drew (w.heap.size + 6) v (missK off p k).length (missK off p k) (owns_at hown (fun _ _ => rfl)) hsz2 x (by have := miss_len off p k; have := HKN.out; omega)
      obtain ⟨bo, c5, rfl, -⟩ := owns_lat ho5
      have d1 := blk_cell (w := W2.drew) hv 0
      have hbx2 : W2.drew.cell? ⟨bx, 0, none⟩ = some (.int .i64 x) := HCX.out
      have hv5 := (hb5.block (w.heap.size + 1) (by omega)).trans hv
      have g1 := blk_cell hv5 0
      have f1 := blk_free hv5 0
      simp at d1 g1
      have HR := Hid.mk hr
      have HO5 := Hid.mk ho5
      have HB5 := Hid.mk hb5
      have HV5 := Hid.mk hv5
      clear hr ho5 hb5 hv5 hv hown hsz2
      gi_wp2_with (gi_at_builtin; refine wpLIn_append rfl (.tmp 28) (.tmp 31) 40 rfl _ _ _ _ rfl rfl HR.out ?_; simp only [Act.put, List.setIfInBounds_toArray, List.set_cons_zero, List.set_cons_succ])
      have hb5 := HB5.out
      have hs5 := hb5.size
      have hsz2 := HSZ2.out
      have hI2 := HI2.out
      have keep : ∀ j, j < w.heap.size + 6 → j ≠ w.heap.size + 1 → (W5.setCell ⟨w.heap.size + 1, 0, none⟩ (.slice bo ((missK off p k).length + 1) c5)).heap[j]? = W2.heap[j]? := fun j hj hne => (Below.heap_setCell _ _ _ _ (fun e => hne e)).trans (hb5.block j hj)
      refine ⟨?_, ?_, ?_⟩
      · rw [HL3.out]; exact keep _ (by omega) (by omega)
      · rw [HL3.out]; exact keep _ (by omega) (by omega)
      · refine ⟨(keep _ (by omega) (by omega)).trans hI2.r0, ⟨_, by rw [blk_set HV5.out]; rfl, ?_⟩, (keep _ (by omega) (by omega)).trans hI2.r2, (keep _ (by omega) (by omega)).trans hI2.r3, ?_, by simp [World.setCell]; exact Nat.le_trans hI2.size hs5⟩
        · rw [hsucc, List.length_append, List.length_singleton]
          refine owns_at HO5.out (fun j e => Below.heap_setCell _ _ _ _ (fun e' => ?_))
          have := (HO5.out.lt j e).1
          have e2 : j = w.heap.size + 1 := e'
          omega
        · exact (hI2.below.drew.trans (hb5.mono (show w.heap.size ≤ w.heap.size + 6 by omega))).setCell (p := ⟨w.heap.size + 1, 0, none⟩) (Nat.le_succ _) _
    | some u =>
      rw [hc] at hlk hmem
      have hyes : x ∈ p.map (·.1) := by simpa using hmem
      rw [if_pos hyes, List.append_nil] at hsucc
      simp only [Option.getD_some, Option.isSome_some] at hlk
      obtain ⟨q, hq⟩ : ∃ q, u = .slice (some ⟨q, 0, none⟩) 1024 1024 := by
        have e : flF p r (.int .i64 x) = ((p.zip r).find? (fun q => decide (q.1.1 = x))).map (fun q => .slice (some ⟨q.2, 0, none⟩) 1024 1024) := rfl
        rw [e] at hc
        cases hcc : (p.zip r).find? (fun q => decide (q.1.1 = x)) with
        | none => rw [hcc] at hc; cases hc
        | some y => rw [hcc] at hc; exact ⟨y.2, (Option.some.inj hc).symm⟩
      subst hq
      clear hmem hyes hc
      have HS0 : Hid (W2.drew.cell? ⟨w.heap.size, 0, none⟩ = some (.pointer (some ⟨b, 0, none⟩)) ∧ W2.drew.cell? ⟨b, 3, none⟩ = some (.map (some m)) ∧ W2.drew.cell? ⟨bx, 0, none⟩ = some (.int .i64 x) ∧ (Instr.lookup 60 (.map (some m)) (.int .i64 x) true).run Tryz.prog W2.drew = .ok (.tuple #[.slice (some ⟨q, 0, none⟩) 1024 1024, .bool true]) W2.drew) := Hid.mk ⟨c0, c3, cx, hlk⟩
      gi_wp2_with fail
      refine round_region_held (S := fun W => W.cell? ⟨w.heap.size, 0, none⟩ = some (.pointer (some ⟨b, 0, none⟩)) ∧ W.cell? ⟨b, 3, none⟩ = some (.map (some m)) ∧ W.cell? ⟨bx, 0, none⟩ = some (.int .i64 x) ∧ (Instr.lookup 60 (.map (some m)) (.int .i64 x) true).run Tryz.prog W = .ok (.tuple #[.slice (some ⟨q, 0, none⟩) 1024 1024, .bool true]) W) (by kernel_rfl) (by kernel_rfl) HS0.out (fun hH => ?_)
      change wpAnyH Tryz.prog Region.Mode.any _ _ _ 12 _ _ _
      refine takeH 0 17 (.pointer (some ⟨b, 0, none⟩)) rfl (by kernel_rfl) (by kernel_rfl) (by kernel_rfl) (by kernel_rfl) (fun _ _ _ h => h) (by kernel_rfl) (fun w hw => by (try dsimp only at hw); obtain ⟨hw1, hw2, hw3, hw4⟩ := hw; go_simp) hH ?_
      simp only [List.setIfInBounds_toArray, List.set_cons_zero, List.set_cons_succ]
      refine takeH 1 18 (.pointer (some ⟨b, 0, none⟩)) rfl (by kernel_rfl) (by kernel_rfl) (by kernel_rfl) (by kernel_rfl) (fun _ _ _ h => h) (by kernel_rfl) (fun w hw => by (try dsimp only at hw); obtain ⟨hw1, hw2, hw3, hw4⟩ := hw; go_simp) hH ?_
      simp only [List.setIfInBounds_toArray, List.set_cons_zero, List.set_cons_succ]
      refine takeH 2 19 (.pointer (some ⟨b, 3, none⟩)) rfl (by kernel_rfl) (by kernel_rfl) (by kernel_rfl) (by kernel_rfl) (fun _ _ _ h => h) (by kernel_rfl) (fun w hw => by (try dsimp only at hw); obtain ⟨hw1, hw2, hw3, hw4⟩ := hw; go_simp) hH ?_
      simp only [List.setIfInBounds_toArray, List.set_cons_zero, List.set_cons_succ]
      refine takeH 3 20 (.map (some m)) rfl (by kernel_rfl) (by kernel_rfl) (by kernel_rfl) (by kernel_rfl) (fun _ _ _ h => h) (by kernel_rfl) (fun w hw => by (try dsimp only at hw); obtain ⟨hw1, hw2, hw3, hw4⟩ := hw; go_simp) hH ?_
      simp only [List.setIfInBounds_toArray, List.set_cons_zero, List.set_cons_succ]
      refine takeH 4 21 (.pointer (some ⟨bx, 0, none⟩)) rfl (by kernel_rfl) (by kernel_rfl) (by kernel_rfl) (by kernel_rfl) (fun _ _ _ h => h) (by kernel_rfl) (fun w hw => by (try dsimp only at hw); obtain ⟨hw1, hw2, hw3, hw4⟩ := hw; go_simp) hH ?_
      simp only [List.setIfInBounds_toArray, List.set_cons_zero, List.set_cons_succ]
      refine takeH 5 22 (.int .i64 x) rfl (by kernel_rfl) (by kernel_rfl) (by kernel_rfl) (by kernel_rfl) (fun _ _ _ h => h) (by kernel_rfl) (fun w hw => by (try dsimp only at hw); obtain ⟨hw1, hw2, hw3, hw4⟩ := hw; go_simp) hH ?_
      simp only [List.setIfInBounds_toArray, List.set_cons_zero, List.set_cons_succ]
      refine takeH 6 23 (.tuple #[.slice (some ⟨q, 0, none⟩) 1024 1024, .bool true]) rfl (by kernel_rfl) (by kernel_rfl) (by kernel_rfl) (by kernel_rfl) (fun _ _ _ h => h) (by kernel_rfl) (fun w hw => by (try dsimp only at hw); obtain ⟨hw1, hw2, hw3, hw4⟩ := hw; go_simp) hH ?_
      simp only [List.setIfInBounds_toArray, List.set_cons_zero, List.set_cons_succ]
      refine takeH 7 16 (.tuple #[.slice (some ⟨q, 0, none⟩) 1024 1024, .bool true]) rfl (by kernel_rfl) (by kernel_rfl) (by kernel_rfl) (by kernel_rfl) (fun _ _ _ h => h) (by kernel_rfl) (fun w hw => by kernel_rfl) hH ?_
      simp only [List.setIfInBounds_toArray, List.set_cons_zero, List.set_cons_succ]
      refine takeH 8 24 (.slice (some ⟨q, 0, none⟩) 1024 1024) rfl (by kernel_rfl) (by kernel_rfl) (by kernel_rfl) (by kernel_rfl) (fun _ _ _ h => h) (by kernel_rfl) (fun w hw => by (try dsimp only at hw); obtain ⟨hw1, hw2, hw3, hw4⟩ := hw; go_simp) hH ?_
      simp only [List.setIfInBounds_toArray, List.set_cons_zero, List.set_cons_succ]
      refine takeH 9 25 (.bool true) rfl (by kernel_rfl) (by kernel_rfl) (by kernel_rfl) (by kernel_rfl) (fun _ _ _ h => h) (by kernel_rfl) (fun w hw => by (try dsimp only at hw); obtain ⟨hw1, hw2, hw3, hw4⟩ := hw; go_simp) hH ?_
      simp only [List.setIfInBounds_toArray, List.set_cons_zero, List.set_cons_succ]
      refine takeH 10 9 (.slice (some ⟨q, 0, none⟩) 1024 1024) rfl (by kernel_rfl) (by kernel_rfl) (by kernel_rfl) (by kernel_rfl) (fun _ _ _ h => h) (by kernel_rfl) (fun w hw => by kernel_rfl) hH ?_
      simp only [List.setIfInBounds_toArray, List.set_cons_zero, List.set_cons_succ]
      refine takeH 11 10 (.bool true) rfl (by kernel_rfl) (by kernel_rfl) (by kernel_rfl) (by kernel_rfl) (fun _ _ _ h => h) (by kernel_rfl) (fun w hw => by kernel_rfl) hH ?_
      simp only [List.setIfInBounds_toArray, List.set_cons_zero, List.set_cons_succ]
      refine wpAnyH_done (by kernel_rfl) ?_ _
      dsimp only [Norm]
      clear hH HS0 c0 c3 cx hlk
      gi_wp2_with fail
      have hI2 := HI2.out
      refine ⟨rfl, rfl, ?_⟩
      have hI3 : FiI w b off cnt p k W2.drew := FiI_own k W2 W2.drew none hI2 ⟨rfl, rfl, rfl, Nat.le_refl _, fun _ _ _ => rfl⟩ (by simp)
      obtain ⟨h1, h2, h3, h4, h5, h6⟩ := hI3
      exact ⟨h1, by rw [hsucc]; exact h2, h3, h4, h5, h6⟩
  case done =>
    rintro D W hD hI hKD
    obtain ⟨v, hv, hown⟩ := hI.out
    obtain ⟨ao, cc, rfl, hla⟩ := owns_lat hown
    have d1 := blk_cell hv 0
    have d0 := blk_cell hI.r0 0
    simp at d0 d1
    have HI := Hid.mk hI
    have HLA := Hid.mk hla
    have HDK := Hid.mk hKD
    have HDD : Hid (D = w.heap.size + 4) := Hid.mk (by omega)
    have HLEN := Hid.mk (miss_len off p (pzN off cnt))
    have HFV : Hid (fillN off cnt p = if missK off p (pzN off cnt) = [] then 0 else roomL (p.map (·.1) ++ missK off p (pzN off cnt)) - roomL (p.map (·.1))) := Hid.mk rfl
    have HGO : Hid (∀ W', Below w.heap.size w W' → W'.heap[D]? = some (.deferred (some [])) → Below w.heap.size w (W'.putObj D (.deferred none))) := Hid.mk (fun W' hb hd => hb.trans (belowK_b (w := w) (Nat.le_refl _) W' D _ _ (by omega) hd rfl rfl))
    generalize hM : missK off p (pzN off cnt) = M at *
    clear hI hv hown hla hI0 hKD hD
    cases M with
    | nil =>
      have hlen0 : (([] : List Int).length : Int) = 0 := rfl
      gi_wp2
      refine ⟨by simp, .inl ⟨_, _, rfl, run_takeDeferred HDK.out, ?_⟩⟩
      refine ⟨.int .i64 0, ?_, ?_, HGO.out W HI.out.below HDK.out⟩
      · simp [results, Tryz.f50, go_sem]
      · rw [HFV.out]; simp
    | cons y M =>
      have hlen1 : ¬ (((y :: M).length : Int) = 0) := by simp; omega
      obtain ⟨a, ea, hlt, hcc⟩ := HLA.out.2 (by simp)
      subst ea
      have hfW := HH.out.kept (W' := W) (fun q hq => HI.out.below.block q (NdAt.lt (loc := fun _ => 0) (L := .file b m r) (d := .file l z p) HH.out q hq))
      have HNO := Hid.mk (nos_file W b m r l z p hfW HP.out (by omega))
      unfold ptrV at HNO
      have hv := HI.out.out
      have HMV : Hid (∀ W', Below W.heap.size W W' → W'.cell? ⟨w.heap.size + 1, 0, none⟩ = some (.slice (some a) (y :: M).length cc) ∧ LAt W' (some a) (y :: M).length (y :: M)) := Hid.mk (fun W' hB => ⟨by rw [World.cell?_of_block (w := W) (hB.block _ (by have := HI.out.size; simp; omega))]; exact d1, HLA.out.blw hB⟩)
      generalize hml : (y :: M).length = ml at *
      have HML : Hid (0 < ml ∧ ml ≤ 1026) := Hid.mk (by have := HLEN.out; have := HNN.out; simp at hml; omega)
      have HMLE := Hid.mk hml
      have hlen2 : ¬ ((ml : Int) = 0) := by have := HML.out; omega
      have hlen3 : ((ml : Int) == 0) = false := by simp; have := HML.out; omega
      clear hfW hv hlt hcc hml hlen1
      gi_wp2_with (first
        | (refine ⟨trivial, ?_⟩; gi_at_call 51; refine (callsIn_wide.2 HNO.out).mono ?_; rintro e W1 ⟨ho, c', rfl, hown, hB⟩; obtain ⟨q1, q2⟩ := HMV.out W1 hB; obtain ⟨bo, c3, W2, hap, hl1, hl2, hb2⟩ := appi_keepL W1 W.heap.size ho p.length c' (p.map (·.1)) hown hB.size a ml cc (y :: M) q2 HML.out.1 (by have := HML.out; omega); have HAP := Hid.mk hap; have HB1 := Hid.mk hB; have HR1 := Hid.mk (room_any W2 bo (p.length + ml) c3 _ hl1 (by have := HML.out; omega)); have HL2 := Hid.mk hl2; have HB2 := Hid.mk hb2; clear hap hl1 hl2 hb2 hown hB q2)
        | (gi_at_builtin; have hx := HAP.out; refine wpLIn_append rfl (.tmp 38) (.tmp 39) 40 rfl _ _ _ _ rfl rfl hx ?_; simp only [Act.put, List.setIfInBounds_toArray, List.set_cons_zero, List.set_cons_succ]; clear hx)
        | (refine ⟨trivial, ?_⟩; gi_at_call 52; have _t := HR1; refine (callsIn_wide.2 HR1.out).mono ?_; rintro e W3 ⟨rfl, hB⟩; have HB3 := Hid.mk hB; have HR2 := Hid.mk (room_any W3 ho p.length c' _ (HL2.out.blw hB) (by omega)); clear hB HR1 _t)
        | (refine ⟨trivial, ?_⟩; gi_at_call 52; refine (callsIn_wide.2 HR2.out).mono ?_; rintro e W4 ⟨rfl, hB⟩; have HB4 := Hid.mk hB; clear hB))
      have b1 := HB1.out
      have b2 := HB2.out
      have b3 := HB3.out.mono (Nat.le_trans b1.size b2.size)
      have b4 := HB4.out.mono (Nat.le_trans (Nat.le_trans b1.size b2.size) b3.size)
      have bb := ((b1.trans b2).trans b3).trans b4
      have hdk := (bb.block D (lt_of_block HDK.out)).trans HDK.out
      refine ⟨by simp, .inl ⟨_, _, rfl, run_takeDeferred hdk, ?_⟩⟩
      refine ⟨.int .i64 (roomL (p.map (·.1) ++ y :: M) - roomL (p.map (·.1))), ?_, ?_, HGO.out _ (HI.out.below.trans (bb.mono HI.out.below.size)) hdk⟩
      · have h1 := room_bound (p.map (·.1) ++ y :: M)
        have h2 := room_bound (p.map (·.1))
        have h3 := HLEN.out
        have h4 := HNN.out
        have h5 := HMLE.out
        have h6 := HML.out
        simp only [List.length_append, List.length_map] at h1 h2
        have e : wrap64 (roomL (p.map (·.1) ++ y :: M) - roomL (p.map (·.1))) = roomL (p.map (·.1) ++ y :: M) - roomL (p.map (·.1)) := by unfold wrap64; omega
        simp [results, Tryz.f50, go_sem, e]
      · rw [HFV.out, if_neg (by simp)]
  case stop =>
    rintro D W hD hX hKD
    exact hX.elim
end Go.Proofs.YtehaoeclnmelhacGreat
namespace Go.Proofs.YtehaoeclnmelhacGreat
open Go Go.Proofs Go.RowKit Go.Shelf

theorem filter_put (x : Int) (d : List Int) (p : List (Int × List Int)) : (putP x d p).filter (fun q => decide (q.1 < x)) = p.filter (fun q => decide (q.1 < x)) ∧ (putP x d p).filter (fun q => decide (x < q.1)) = p.filter (fun q => decide (x < q.1)) := by
  unfold putP
  constructor
  · rw [List.filter_append, List.filter_filter, List.filter_cons_of_neg (by simp)]
    have : (p.filter (fun q => decide (x < q.1))).filter (fun q => decide (q.1 < x)) = [] := by
      rw [List.filter_filter, List.filter_eq_nil_iff]
      intro a _ h
      simp only [Bool.and_eq_true, decide_eq_true_eq] at h
      omega
    rw [this, List.append_nil]
    simp
  · rw [List.filter_append, List.filter_cons_of_neg (by simp), List.filter_filter]
    have : (p.filter (fun q => decide (q.1 < x))).filter (fun q => decide (x < q.1)) = [] := by
      rw [List.filter_filter, List.filter_eq_nil_iff]
      intro a _ h
      simp only [Bool.and_eq_true, decide_eq_true_eq] at h
      omega
    simp only [List.filter_filter] at this
    rw [this, List.nil_append]
    simp
theorem put_put (x : Int) (d d' : List Int) (p : List (Int × List Int)) : putP x d' (putP x d p) = putP x d' p := by
  obtain ⟨h1, h2⟩ := filter_put x d p
  have e : ∀ P, putP x d' P = P.filter (fun q => decide (q.1 < x)) ++ (x, d') :: P.filter (fun q => decide (x < q.1)) := fun _ => rfl
  rw [e, h1, h2]
  rfl
/-- The bytes of the k-th run. -/
def wrSeg (off cnt : Int) (xs : List Int) (k : Nat) : List Int := (xs.drop (pzF off cnt k).toNat).take (pzF off cnt (k + 1) - pzF off cnt k).toNat
/-- A block with the k-th run in it. -/
def wrRow (off cnt : Int) (xs : List Int) (k : Nat) (d : List Int) : List Int := splice d (pzA off k).toNat (wrSeg off cnt xs k)
/-- The blocks behind k rounds. -/
def wrP (off cnt : Int) (xs : List Int) (p : List (Int × List Int)) : Nat → List (Int × List Int)
  | 0 => p
  | k + 1 => putP (pzB off k) (wrRow off cnt xs k ((getP (wrP off cnt xs p k) (pzB off k)).getD (zeros 1024))) (wrP off cnt xs p k)
theorem wr_len (off cnt : Int) (xs : List Int) (p : List (Int × List Int)) (k : Nat) (hp : (p.map (·.1)).Pairwise (· < ·)) : ((wrP off cnt xs p k).map (·.1)).Pairwise (· < ·) ∧ (wrP off cnt xs p k).length ≤ p.length + k := by
  induction k with
  | zero => exact ⟨hp, Nat.le_refl _⟩
  | succ k ih =>
    rw [wrP]
    refine ⟨?_, ?_⟩
    · have h := ih.1
      unfold putP
      rw [List.map_append, List.map_cons, List.pairwise_append, List.pairwise_cons]
      have hs : ∀ P : Int × List Int → Bool, (((wrP off cnt xs p k).filter P).map (·.1)).Pairwise (· < ·) := fun P => h.sublist ((List.filter_sublist).map _)
      refine ⟨hs _, ⟨fun a ha => ?_, hs _⟩, fun a ha b hb => ?_⟩
      · obtain ⟨e, he, rfl⟩ := List.mem_map.1 ha
        simpa using (List.mem_filter.1 he).2
      · obtain ⟨e, he, rfl⟩ := List.mem_map.1 ha
        have h3 : e.1 < pzB off k := by simpa using (List.mem_filter.1 he).2
        rcases List.mem_cons.1 hb with rfl | hb
        · exact h3
        · obtain ⟨e', he', rfl⟩ := List.mem_map.1 hb
          have h4 : pzB off k < e'.1 := by simpa using (List.mem_filter.1 he').2
          omega
    · by_cases hm : pzB off k ∈ (wrP off cnt xs p k).map (·.1)
      · rw [put_old _ _ ih.1 hm]; have := ih.2; omega
      · rw [put_new _ _ hm]; have := ih.2; omega
/-- copy(b, s) into a row that is known. -/
theorem copyb_run (W : World) (g o dLen dCap : Nat) (xs ys : List Int) (a : Addr) (n c : Nat) (h : RAt W g xs) (hb : BAt W (some a) n ys) (hl : o + dLen ≤ xs.length) (hn : n ≤ dLen) :
    ∃ W', (Builtin.copy_ #[28, 28] 3 #[.slice (some ⟨g, o, none⟩) dLen dCap, .slice (some a) n c]).run Tryz.prog W = .ok (.int .i64 (n : Nat)) W' ∧ RAt W' g (splice xs o ys) ∧ Only (fun k => k = g) W W' := by
  obtain ⟨i0, hi, hz0, hz1, hz2⟩ := info5p
  have hyl := hb.1
  have hcl : (By ys).length = min n dLen := by rw [By_length]; omega
  have hr := run_copy_row (P := Tryz.prog) W 28 28 3 5 g o dLen dCap a n c (By xs).toArray 5 (By ys) Tryz.underlying28 (by rw [hi]; simp [hz1]) h hcl (fun j u hj => by
    have hjl := (List.getElem?_eq_some_iff.1 hj).1
    rw [By_length] at hjl
    rw [By_get _ j hjl] at hj
    obtain ⟨a', e, hc⟩ := hb.at j (by omega)
    cases e
    rw [hc]
    exact hj) (by simp [By_length]; omega) (By_one _)
  refine ⟨W.setRow g (By (splice xs o ys)).toArray, hr.trans ?_, setRow_heap W g _ _ 5 _ h, (Only.refl (fun k => k = g) W).setRow (.inl rfl) _⟩
  rw [By_length, hyl]
  have e : (By xs).toArray.toList.take o ++ By ys ++ (By xs).toArray.toList.drop (o + n) = By (splice xs o ys) := by
    unfold splice
    rw [hyl]
    simp [By]
  rw [e]
  rfl
theorem exec_mk {P : Program} {ev : Operand → Value} {oi : Oper} {t : TypeId} {l c : Operand} {vl vc v' : Value} {w w' : World} (ho : oi.op = .makeSlice t l c) (hl : ev l = vl) (hc : ev c = vc) (h : (Instr.makeSlice t vl vc).run P w = .ok v' w') : (execOp ev oi).run P w = .ok (.value v') w' := by
  unfold execOp
  simp only [ho, Sem.run_bind, Sem.run_pure, Result.andThen_ok, hl, hc, h]
theorem exec_upd {ev : Operand → Value} {oi : Oper} {m k v : Operand} {t : TypeId} {a b c : Value} {W W' : World} (ho : oi.op = .mapUpdate t m k v) (hm : ev m = a) (hk : ev k = b) (hv : ev v = c) (hr : (Instr.mapUpdate t a b c).run Tryz.prog W = .ok () W') : (execOp ev oi).run Tryz.prog W = .ok .skip W' := by
  unfold execOp
  simp only [ho, hm, hk, hv, Sem.run_bind, hr, Result.andThen_ok]
  rfl
theorem exec_cpy {ev : Operand → Value} {oi : Oper} {d x : Operand} {dT sT : TypeId} {a b v : Value} {W W' : World} (ho : oi.op = .call { callee := .builtin .copy, args := #[d, x], argTypes := #[dT, sT] }) (hd : ev d = a) (hx : ev x = b) (hr : (Builtin.copy_ #[dT, sT] oi.type #[a, b]).run Tryz.prog W = .ok v W') : (execOp ev oi).run Tryz.prog W = .ok (.value v) W' := by
  simp [execOp, ho, resolve, invoke, builtin, hd, hx, hr, Result.andThen]
set_option maxRecDepth 100000 in
theorem exec_sl1 {ev : Operand → Value} {oi : Oper} {s y : Operand} {W : World} (q A : Nat) (hA : A < 1024) (ho : oi.op = .slice 28 s (some y) none none) (hs : ev s = .slice (some ⟨q, 0, none⟩) 1024 1024) (hy : ev y = .int .i64 (A : Int)) : (execOp ev oi).run Tryz.prog W = .ok (.value (.slice (some ⟨q, A, none⟩) (1024 - A) (1024 - A))) W := by
  unfold execOp
  rw [ho]
  simp only [hs, hy, Option.map]
  go_simp
  rw [if_pos (by omega), if_neg (by omega)]
set_option maxRecDepth 100000 in
theorem exec_sl2 {ev : Operand → Value} {oi : Oper} {s y z : Operand} {W : World} (a : Addr) (dl dc F E : Nat) (h : F < E ∧ E ≤ dl ∧ dl ≤ dc ∧ dl ≤ 8192 ∧ dc ≤ 9223372036854775807) (ho : oi.op = .slice 28 s (some y) (some z) none) (hs : ev s = .slice (some a) dl dc) (hy : ev y = .int .i64 (F : Int)) (hz : ev z = .int .i64 (E : Int)) : (execOp ev oi).run Tryz.prog W = .ok (.value (.slice (some (a.add F)) (E - F) (dc - F))) W := by
  unfold execOp
  rw [ho]
  simp only [hs, hy, hz, Option.map]
  go_simp
  rw [if_pos (by omega), if_pos (by omega), if_neg (by omega)]
theorem BAt.upto {W : World} {ao : Option Addr} {n m : Nat} {xs : List Int} (h : BAt W ao n xs) (hm : m ≤ n) : BAt W ao m (xs.take m) := by
  refine ⟨by rw [List.length_take, h.1]; omega, fun h0 => ?_⟩
  obtain ⟨a, e, hlt, hc⟩ := h.2 (by omega)
  refine ⟨a, e, hlt, fun i hi => ?_⟩
  rw [hc i (by omega)]
  simp only [List.getD, List.getElem?_take, if_pos hi]
theorem zip_inj {p : List (Int × List Int)} {r : List Nat} (hl : r.length = p.length) (hn : r.Nodup) {e f : (Int × List Int) × Nat} (he : e ∈ p.zip r) (hf : f ∈ p.zip r) (h : e.2 = f.2) : e = f := by
  have hz : ((p.zip r).map (·.2)).Nodup := by rw [List.map_snd_zip (by omega)]; exact hn
  obtain ⟨i, hi, ei⟩ := List.getElem_of_mem he
  obtain ⟨j, hj, ej⟩ := List.getElem_of_mem hf
  have hpw := List.pairwise_iff_getElem.1 hz
  have hij : i = j := by
    rcases Nat.lt_trichotomy i j with h' | h' | h'
    · exact absurd (show ((p.zip r).map (·.2))[i]'(by simpa using hi) = ((p.zip r).map (·.2))[j]'(by simpa using hj) by simp only [List.getElem_map, ei, ej]; exact h) (hpw i j (by simpa using hi) (by simpa using hj) h')
    · exact h'
    · exact absurd (show ((p.zip r).map (·.2))[j]'(by simpa using hj) = ((p.zip r).map (·.2))[i]'(by simpa using hi) by simp only [List.getElem_map, ei, ej]; exact h.symm) (hpw j i (by simpa using hj) (by simpa using hi) h')
  subst hij
  rw [← ei, ← ej]
/-- A round that makes a block: nought. -/
theorem PtAt.new {W : World} {m : Nat} {r : List Nat} {p : List (Int × List Int)} (h : PtAt W m r p) {x : Int} (h0 : 0 ≤ x) (h1 : x < 65800) (hx : x ∉ p.map (·.1)) (hn : p.length ≤ 100000) : ∃ W2, (Instr.mapUpdate 60 (.map (some m)) (.int .i64 x) (.slice (some ⟨W.heap.size, 0, none⟩) 1024 1024)).run Tryz.prog (W.alloc (.cells (By (zeros 1024)).toArray 5)) = .ok () W2 ∧ PtAt W2 m (putR x W.heap.size p r) (putP x (zeros 1024) p) ∧ Only (fun k => k = m) W W2 := by
  have hm := h.blocks.lt
  obtain ⟨o, hr, hb⟩ := (h.blocks.kept (W' := W.alloc (.cells (By (zeros 1024)).toArray 5)) (Below.heap_alloc _ _ _ hm)).put keyed3 Tryz.underlying60 (by unfold maxLen; omega) (Maps.keyOf_int_mk Tryz.underlying3 (okI_of (a := x) (by omega) (by omega))) (val := .slice (some ⟨W.heap.size, 0, none⟩) 1024 1024)
  have hnone : (flF p r (.int .i64 x)).isSome = false := by rw [fl_mem h.len]; simpa using hx
  rw [hnone, if_neg (by decide), ← put_new x (zeros 1024) hx] at hb
  have hrl : ∀ e ∈ p.zip r, e.2 < W.heap.size := fun e he => lt_of_block (h.rows e he).1
  refine ⟨_, hr, ?_, ((Only.refl (fun k => k = m) W).alloc _).setBlock (.inl rfl) o⟩
  refine h.put h0 h1 (zeros_length 1024) hb ?_ (fun e he _ => ?_) (fun e he _ e' => ?_) (by omega)
  · rw [heap_set_other (by omega)]
    exact blk_new W _
  · have hlt := hrl e he
    have hne : e.2 ≠ m := fun e' => (List.nodup_cons.1 h.nd).1 (e' ▸ (List.of_mem_zip he).2)
    rw [heap_set_other hne]
    exact Below.heap_alloc _ _ _ hlt
  · have := hrl e he
    omega
/-- A round that turns a block. -/
theorem PtAt.turn {W W' : World} {m q : Nat} {r : List Nat} {p : List (Int × List Int)} (h : PtAt W m r p) {x : Int} {d d' : List Int} (hz : ((x, d), q) ∈ p.zip r) (hq : RAt W' q d') (hd : d'.length = 1024) (ho : Only (fun k => k = q) W W') : PtAt W' m (putR x q p r) (putP x d' p) := by
  have hxp : x ∈ p.map (·.1) := List.mem_map.2 ⟨(x, d), (List.of_mem_zip hz).1, rfl⟩
  have hqr : q ∈ r := (List.of_mem_zip hz).2
  have hmq : m ≠ q := fun e => (List.nodup_cons.1 h.nd).1 (e ▸ hqr)
  have hb := h.ok.2 _ (List.of_mem_zip hz).1
  have hne : ∀ e ∈ p.zip r, e.1.1 ≠ x → e.2 ≠ q := fun e he hx e' => by
    have := zip_inj h.len (List.nodup_cons.1 h.nd).2 he hz e'
    rw [this] at hx
    exact hx rfl
  have hfl : flF p r (.int .i64 x) = some (.slice (some ⟨q, 0, none⟩) 1024 1024) := by
    rcases h.get x with ⟨_, hno, _⟩ | ⟨d2, q2, _, _, hf, hz2⟩
    · exact absurd hxp hno
    · rw [hf]
      have e1 : ((x, d2), q2) = ((x, d), q) := by
        obtain ⟨i, hi⟩ := List.mem_iff_getElem?.1 hz
        obtain ⟨j, hj⟩ := List.mem_iff_getElem?.1 hz2
        rw [List.getElem?_zip_eq_some] at hi hj
        have hpw := List.pairwise_iff_getElem.1 h.ok.1
        obtain ⟨hi1, hi2⟩ := List.getElem?_eq_some_iff.1 hi.1
        obtain ⟨hj1, hj2⟩ := List.getElem?_eq_some_iff.1 hj.1
        have hij : i = j := by
          rcases Nat.lt_trichotomy i j with h' | h' | h'
          · have := hpw i j (by simpa using hi1) (by simpa using hj1) h'
            simp only [List.getElem_map, hi2, hj2] at this
            omega
          · exact h'
          · have := hpw j i (by simpa using hj1) (by simpa using hi1) h'
            simp only [List.getElem_map, hi2, hj2] at this
            omega
        subst hij
        have a1 := hi.1.symm.trans hj.1
        have a2 := hi.2.symm.trans hj.2
        simp only [Option.some.injEq] at a1 a2
        rw [← a1, ← a2]
      cases e1
      rfl
  refine h.put hb.1 hb.2 hd ?_ hq (fun e he hx => ho.block _ (lt_of_block (h.rows e he).1) (hne e he hx)) hne hmq
  rw [put_old x d' h.ok.1 hxp]
  have e : updF (flF p r) (.int .i64 x) (some (.slice (some ⟨q, 0, none⟩) 1024 1024)) = flF p r := by
    funext l
    by_cases hl : l = .int .i64 x
    · subst hl; rw [upd_same, hfl]
    · rw [upd_other _ _ hl]
  rw [e]
  exact h.blocks.kept (ho.block m h.blocks.lt hmq)
end Go.Proofs.YtehaoeclnmelhacGreat
namespace Go.Proofs.YtehaoeclnmelhacGreat
open Go Go.Proofs Go.RowKit Go.Shelf
section
variable {P : Program} {n : Nat} {ops : Array Oper} {Q : Exit → Act → World → Prop}
theorem w_rowsIn_wide {row : String} {args : Array Value} {w : World} {R : Value → World → Prop} (h : Rows P row args w R) : RowsIn Fence.wide n P row args w R :=
  fun c cs _ => let ⟨v, w', r, s⟩ := h c cs; ⟨v, w', r, stepsIn_wide.2 s⟩
theorem w_callsIn_round {f : FuncId} {args : Array Value} {w : World} {R : Ending → World → Prop} (h : Calls P f args w R) : CallsIn Fence.wide n P f args w R := (callsIn_wide (n := n)).2 h
/-- An operation that is no defer statement. -/
theorem w_operIn_of_oper {o : Oper} {a : Act} {w : World} {K K' : Act → World → Prop} (hp : ∀ c, o.op ≠ .defer c) (hK : ∀ a w, K a w → K' a w) (h : o.wp P a w K (Norm (Q .normal))) : o.wpIn Fence.wide n P a w K' Q := by
  refine ⟨fun _ _ => trivial, ?_⟩
  rw [Oper.semAt_plain Fence.wide _ _ hp]
  unfold Oper.wp at h
  generalize (execOp a.eval o).run P w = r at *
  cases r with
  | ok x w' =>
    cases x <;> simp only [Oper.upon, Oper.uponIn] at h ⊢
    case enter f args =>
      refine ⟨fun hd => by simp [Fence.wide] at hd, w_callsIn_round (Calls.mono h fun e w'' he => ?_)⟩
      cases e with
      | returned v => exact hK _ _ he
      | panicked c => exact he.elim
      | outgrown => exact absurd he (norm_in _)
    case row row args => exact ⟨fun hd => by simp [Fence.wide] at hd, w_rowsIn_wide (Rows.mono h fun v w'' he => hK _ _ he)⟩
    all_goals first | exact hK _ _ h | exact h.elim
  | halt x w' => cases x <;> simp only [Oper.upon, Oper.uponIn] at h ⊢ <;> first | exact h.elim | exact h
theorem w_opsIn_of_ops (hp : plainB ops = true) : ∀ (js : List Nat) (a : Act) (w : World), wpOps P ops (Norm (Q .normal)) js a w → wpOpsIn Fence.wide n P ops Q js a w
  | [], _, _, h => h
  | i :: rest, a, w, h => by
    unfold wpOps at h
    unfold wpOpsIn
    cases ho : ops[i]? with
    | none => rw [ho] at h; exact w_opsIn_of_ops hp rest a w h
    | some o =>
      rw [ho] at h
      dsimp only at h ⊢
      split
      · rename_i hw
        rw [if_pos hw] at h
        rcases h with h | h
        · exact w_operIn_of_oper (plainB_spec hp i o ho) (fun a' w' h' => w_opsIn_of_ops hp rest a' w' h') h
        · exact absurd h.2 (norm_in _)
      · rename_i hw
        rw [if_neg hw] at h
        exact ⟨fun _ _ => trivial, w_opsIn_of_ops hp rest _ w h⟩
/-- A region that draws its order, inside a round: as outside of it, by what S holds. -/
theorem wide_region_held {id : Nat} {a : Act} {w : World} (S : World → Prop) (hm : P.follows .mixedOrders = true) (hp : plainB ops = true) (hS : S w.drew)
    (h : S w.drew → wpAnyH P .any ops (Norm (Q .normal)) S ops.size (Array.replicate ops.size false) a w.drew) : (Code.region id ops true).wpIn Fence.wide n P Q a w := by
  refine wpIn_region_draw fun t => ?_
  simp only [Region.schedule, hm, Bool.true_or, if_true]
  have h1 := wpAny_sound (P := P) (md := .any) (ops := ops) ops.size t _ a _ (wpAny_of_held _ _ _ _ (h hS))
  exact w_opsIn_of_ops (n := n) hp _ _ _ h1
end
end Go.Proofs.YtehaoeclnmelhacGreat
namespace Go.Proofs.YtehaoeclnmelhacGreat
open Go Go.Proofs Go.RowKit Go.Shelf
section
variable {P : Program} {ops : Array Oper} {Q : Exit → Act → World → Prop} {md : Region.Mode} {S : World → Prop} {fuel : Nat} {listed : Array Bool} {t : Array Value} {w : World} {ds : List Deferred}
set_option maxRecDepth 100000 in
theorem takeHD (i d : Nat) (v : Value) {oi : Oper} (hi : ops[i]? = some oi) (hd : oi.dst = some d) (hs : Region.noSelect ops = true) (hf : Region.free md ops listed i = true) (hr : (Region.ready md ops listed).contains i = true)
    (hQ : ∀ c a w, Q (.panic c) (a.put oi.dst v) w → Q (.panic c) a w) (hw : Region.wanted oi (yielded ops t) = true) (hrun : ∀ w, S w → (execOp (Act.eval { tmps := t, defers := ds }) oi).run P w = .ok (.value v) w) (hS : S w)
    (h : wpAnyH P md ops Q S fuel (listed.setIfInBounds i true) { tmps := t.setIfInBounds d v, defers := ds } w) : wpAnyH P md ops Q S (fuel + 1) listed { tmps := t, defers := ds } w := by
  refine wpAnyH_take hi hs hf hr hQ (.inl ⟨hw, hrun⟩) hS ?_
  rw [show (Act.put { tmps := t, defers := ds } oi.dst v) = { tmps := t.setIfInBounds d v, defers := ds } from by simp [Act.put, hd]]
  exact h
set_option maxRecDepth 100000 in
theorem stepHD (i d : Nat) (v : Value) {oi : Oper} (hi : ops[i]? = some oi) (hd : oi.dst = some d) (hr : Region.ready md ops listed = [i]) (hw : Region.wanted oi (yielded ops t) = true)
    (hrun : (execOp (Act.eval { tmps := t, defers := ds }) oi).run P w = .ok (.value v) w) (hS : S w)
    (h : wpAnyH P md ops Q S fuel (listed.setIfInBounds i true) { tmps := t.setIfInBounds d v, defers := ds } w) : wpAnyH P md ops Q S (fuel + 1) listed { tmps := t, defers := ds } w := by
  refine wpAnyH_all hr (by simp) (fun j hj => ?_)
  obtain rfl : j = i := by simpa using hj
  unfold wpOp
  rw [hi]
  dsimp only
  rw [if_pos hw]
  left
  unfold Oper.wp
  rw [hrun, Oper.upon_value, show (Act.put { tmps := t, defers := ds } oi.dst v) = { tmps := t.setIfInBounds d v, defers := ds } from by simp [Act.put, hd]]
  exact ⟨hS, h⟩
set_option maxRecDepth 100000 in
theorem stepH_callD (i d : Nat) {oi : Oper} (hi : ops[i]? = some oi) (hd : oi.dst = some d) (hr : Region.ready md ops listed = [i]) (hw : Region.wanted oi (yielded ops t) = true)
    (f : Nat) (xs : Array Operand) (tys : Array TypeId) (hop : oi.op = Op.call { callee := .value (.func f), args := xs, argTypes := tys })
    (eg : ∀ vs w, (callFunc f vs).run P w = .ok (.enter f vs) w) (vs : Array Value) (hvs : xs.map (Act.eval { tmps := t, defers := ds }) = vs)
    {R : Ending → World → Prop} (hc : Calls P f vs w R)
    (h : ∀ e w', R e w' → ∃ u, e = .returned u ∧ S w' ∧ wpAnyH P md ops Q S fuel (listed.setIfInBounds i true) { tmps := t.setIfInBounds d u, defers := ds } w') : wpAnyH P md ops Q S (fuel + 1) listed { tmps := t, defers := ds } w := by
  refine wpAnyH_all hr (by simp) (fun j hj => ?_)
  obtain rfl : j = i := by simpa using hj
  unfold wpOp
  rw [hi]
  dsimp only
  rw [if_pos hw]
  left
  have hrun : (execOp (Act.eval { tmps := t, defers := ds }) oi).run P w = .ok (.enter f vs) w := by
    subst hvs
    simp [execOp, hop, resolve, invoke, Act.eval, go_sem, eg]
  unfold Oper.wp
  rw [hrun, Oper.upon_enter]
  refine hc.mono ?_
  intro e w' hr
  obtain ⟨u, rfl, h1, h2⟩ := h e w' hr
  show S w' ∧ wpAnyH P md ops Q S fuel (listed.setIfInBounds j true) (Act.put { tmps := t, defers := ds } oi.dst u) w'
  rw [show (Act.put { tmps := t, defers := ds } oi.dst u) = { tmps := t.setIfInBounds d u, defers := ds } from by simp [Act.put, hd]]
  exact ⟨h1, h2⟩
set_option maxRecDepth 100000 in
theorem stepH_oneD (i : Nat) (hr : Region.ready md ops listed = [i])
    (h1 : wpOp P ops Q i (fun a' w' => S w' ∧ wpAnyH P md ops Q S fuel (listed.setIfInBounds i true) a' w') { tmps := t, defers := ds } w) : wpAnyH P md ops Q S (fuel + 1) listed { tmps := t, defers := ds } w := by
  refine wpAnyH_all hr (by simp) (fun k hk => ?_)
  obtain rfl : k = i := by simpa using hk
  exact h1
set_option maxRecDepth 100000 in
theorem opH_dropD (i : Nat) (w' : World) (v : Value) {oi : Oper} (hi : ops[i]? = some oi) (hd : oi.dst = none) (hw : Region.wanted oi (yielded ops t) = true)
    (hrun : (execOp (Act.eval { tmps := t, defers := ds }) oi).run P w = .ok (.value v) w') (hS : S w')
    (h : wpAnyH P md ops Q S fuel (listed.setIfInBounds i true) { tmps := t, defers := ds } w') : wpOp P ops Q i (fun a' w' => S w' ∧ wpAnyH P md ops Q S fuel (listed.setIfInBounds i true) a' w') { tmps := t, defers := ds } w := by
  unfold wpOp
  rw [hi]
  dsimp only
  rw [if_pos hw]
  refine .inl ?_
  unfold Oper.wp
  rw [hrun, Oper.upon_value]
  rw [show (Act.put { tmps := t, defers := ds } oi.dst v) = { tmps := t, defers := ds } from by simp [Act.put, hd]]
  exact ⟨hS, h⟩
end
end Go.Proofs.YtehaoeclnmelhacGreat
