/-
  The room of a tree: fits, take, Used.
-/
import Derived.Test.YtehaoeclnmelhacGreatTrRoom
namespace Go.Proofs.YtehaoeclnmelhacGreat
open Go Go.Proofs Go.RowKit Go.Shelf Go.Sort

/-- Block t is a tree's. -/
def TbAt (W : World) (t : Nat) (G I D : Int) (root : Nat) (i b : Int) : Prop := W.heap[t]? = some (.cells #[.int .i64 G, .int .i64 I, .int .i64 D, ptrV root, .int .i64 i, .int .i64 b] 52 (0, 0))
def fitsB (G I D i b x y : Int) : Bool := decide (w64 (i + x) ≤ inoI G I D) && decide (w64 (b + y) ≤ blkI G I D)
theorem TbAt.below {W W' : World} {t root : Nat} {G I D i b : Int} (h : TbAt W t G I D root i b) (hB : Below W.heap.size W W') : TbAt W' t G I D root i b := (hB.block t (lt_of_block h)).trans h
theorem wrap_eq (n : Int) : IntKind.i64.wrap n = wrap64 n := by rw [IntKind.wrap_i64, wrap64]
set_option maxRecDepth 100000 in
set_option maxHeartbeats 2000000 in
theorem fits_any (w : World) (t root : Nat) (G I D i b : Int) (h : TbAt w t G I D root i b) (x y : Int) :
    Calls Tryz.prog 56 #[ptrV t, .int .i64 x, .int .i64 y] w fun e w' => e = .returned (.bool (fitsB G I D i b x y)) ∧ Below w.heap.size w w' := by
  have mixed : Tryz.prog.follows Departure.mixedOrders = true := by kernel_rfl
  have e0 := blk_cell h 0
  have e1 := blk_cell h 1
  have e2 := blk_cell h 2
  have e4 := blk_cell h 4
  have e5 := blk_cell h 5
  simp at e0 e1 e2 e4 e5
  have k0 := cell_regrown e0
  have k1 := cell_regrown e1
  have k2 := cell_regrown e2
  have k4 := cell_regrown e4
  have k5 := cell_regrown e5
  have cI : ∀ d os, Calls Tryz.prog 70 #[.agg #[.int .i64 G, .int .i64 I, .int .i64 D]] (grow (redrawn w d) os) fun e w'' => e = .returned (.int .i64 (inoI G I D)) ∧ ∃ p : Regrown, w'' = grow (redrawn w p.d) p.os := fun d os => Calls.regrown_of (inodes_any _ G I D)
  have cB : ∀ d os, Calls Tryz.prog 71 #[.agg #[.int .i64 G, .int .i64 I, .int .i64 D]] (grow (redrawn w d) os) fun e w'' => e = .returned (.int .i64 (blkI G I D)) ∧ ∃ p : Regrown, w'' = grow (redrawn w p.d) p.os := fun d os => Calls.regrown_of (blocks_any _ G I D)
  clear h e0 e1 e2 e4 e5
  unfold fitsB w64
  unfold ptrV
  cases hg : decide (wrap64 (i + x) ≤ inoI G I D) with
  | true =>
    go_enter Tryz.func56, Tryz.ntmps56
    go_wp2
    refine wp_region_quiet_below (by assumption) (by kernel_rfl) ?_
    repeat (go_big_quiet_step (first | (go_at_call 70; exact cI _ _) | (go_at_call 71; exact cB _ _)))
    refine wpQuiet_nil ?_
    intro _ hw'
    obtain ⟨⟨dq, osq⟩, hw''⟩ := hw'
    subst hw''
    go_wp2
    go_ret
    refine ⟨?_, below_regrown w dq osq⟩
    show Ending.returned (Value.bool (decide (wrap64 (b + y) ≤ blkI G I D))) = _
    rw [Bool.true_and]
  | false =>
    go_enter Tryz.func56, Tryz.ntmps56
    go_wp2
    refine wp_region_quiet_below (by assumption) (by kernel_rfl) ?_
    repeat (go_big_quiet_step (first | (go_at_call 70; exact cI _ _) | (go_at_call 71; exact cB _ _)))
    refine wpQuiet_nil ?_
    intro _ hw'
    obtain ⟨⟨dq, osq⟩, hw''⟩ := hw'
    subst hw''
    go_wp2
    go_ret
    refine ⟨?_, below_regrown w dq osq⟩
    show Ending.returned (Value.bool false) = _
    rw [Bool.false_and]
set_option maxRecDepth 100000 in
set_option maxHeartbeats 2000000 in
theorem take_any (w : World) (t root : Nat) (G I D i b : Int) (h : TbAt w t G I D root i b) (x y : Int) :
    Calls Tryz.prog 38 #[ptrV t, .int .i64 x, .int .i64 y] w fun e w' => (fitsB G I D i b x y = false ∧ e = .returned (.int .i64 16) ∧ Below w.heap.size w w') ∨ (fitsB G I D i b x y = true ∧ e = .returned (.int .i64 0) ∧ TbAt w' t G I D root (w64 (i + x)) (w64 (b + y)) ∧ Only (fun k => k = t) w w') := by
  have HF := Hid.mk (fits_any w t root G I D i b h x y)
  have HH := Hid.mk h
  clear h
  cases hg : fitsB G I D i b x y with
  | false =>
    rw [hg] at HF
    unfold ptrV at *
    go_enter Tryz.func38, Tryz.ntmps38
    go_wp2_with (go_at_call 56; refine HF.out.mono ?_; rintro e W1 ⟨rfl, hB⟩; have HB := Hid.mk hB; clear hB)
    go_ret
    exact .inl ⟨trivial, rfl, HB.out⟩
  | true =>
    rw [hg] at HF
    unfold ptrV at *
    go_enter Tryz.func38, Tryz.ntmps38
    go_wp2_with (go_at_call 56; refine HF.out.mono ?_; rintro e W1 ⟨rfl, hB⟩; have h1 := HH.out.below hB; have e4 := blk_cell h1 4; have e5 := blk_cell h1 5; have f4 := blk_free h1 4; have f5 := blk_free h1 5; simp at e4 e5; have HB := Hid.mk hB; have H1 := Hid.mk h1; clear hB h1)
    go_ret
    refine .inr ⟨trivial, rfl, ?_, ((Only.of_new (fun k => k = t) HB.out).setCell (p := ⟨t, 4, none⟩) (.inl rfl) _).setCell (p := ⟨t, 5, none⟩) (.inl rfl) _⟩
    unfold TbAt
    rw [blk_set (blk_set H1.out)]
    rfl
set_option maxRecDepth 100000 in
theorem used_any (w : World) (t root : Nat) (G I D i b : Int) (h : TbAt w t G I D root i b) :
    Calls Tryz.prog 12 #[ptrV t] w fun e w' => e = .returned (.tuple #[.int .i64 i, .int .i64 b]) ∧ Below w.heap.size w w' := by
  have e4 := blk_cell h 4
  have e5 := blk_cell h 5
  simp at e4 e5
  clear h
  unfold ptrV at *
  go_enter Tryz.func12, Tryz.ntmps12
  go_wp2
  go_region
  go_wp2
  refine bodyPost_ret (results_tmp2 rfl _ _ _) rfl ?_
  exact ⟨rfl, below_drewN w 1⟩
end Go.Proofs.YtehaoeclnmelhacGreat
namespace Go.Proofs.YtehaoeclnmelhacGreat
open Go Go.Proofs Go.RowKit Go.Shelf
attribute [local go_sem] Oper.semAt_some

/-- The nodes on the way, with what is told of each; last the error, where there is one. -/
def wayL (N : List Nd) : Nat → List (List UInt8) → List (Option Nat × Int)
  | i, [] => [(some i, 0)]
  | i, p :: r => (some i, 0) :: (match N[i]? with
    | some (.dir _ _ s) => (match lookS s p with
      | some j => wayL N j r
      | none => [(none, 10)])
    | _ => [(none, 12)])
theorem wayL_pos (N : List Nd) (i : Nat) (L : List (List UInt8)) : 0 < (wayL N i L).length := by cases L <;> simp [wayL]
theorem wayL_len (N : List Nd) (i : Nat) (L : List (List UInt8)) : (wayL N i L).length ≤ L.length + 1 := by
  induction L generalizing i with
  | nil => simp [wayL]
  | cons p r ih =>
    simp only [wayL, List.length_cons]
    split
    · split
      · rename_i j _
        have := ih j
        omega
      · simp
    · simp
/-- What the last of it tells. -/
def wayE (N : List Nd) (i : Nat) (L : List (List UInt8)) : Option Nat × Int := if (downS N i L).1 = 0 then (some (downS N i L).2, 0) else (none, (downS N i L).1)
theorem way_dir {N : List Nd} {i j : Nat} {l z : Int} {s : List Slt} {p : List UInt8} (r : List (List UInt8)) (h : N[i]? = some (.dir l z s)) (hj : lookS s p = some j) : wayL N i (p :: r) = (some i, 0) :: wayL N j r ∧ downS N i (p :: r) = downS N j r := by
  constructor
  · rw [wayL, h]; simp only [hj]
  · rw [downS, h]; simp only [hj]
theorem way_none {N : List Nd} {i : Nat} {l z : Int} {s : List Slt} {p : List UInt8} (r : List (List UInt8)) (h : N[i]? = some (.dir l z s)) (hj : lookS s p = none) : wayL N i (p :: r) = [(some i, 0), (none, 10)] ∧ downS N i (p :: r) = (10, 0) := by
  constructor
  · rw [wayL, h]; simp only [hj]
  · rw [downS, h]; simp only [hj]
theorem way_file {N : List Nd} {i : Nat} {l z : Int} {b : List (Int × List Int)} {p : List UInt8} (r : List (List UInt8)) (h : N[i]? = some (.file l z b)) : wayL N i (p :: r) = [(some i, 0), (none, 12)] ∧ downS N i (p :: r) = (12, 0) := by
  constructor
  · rw [wayL, h]
  · rw [downS, h]
theorem way_out {N : List Nd} {i : Nat} {p : List UInt8} (r : List (List UInt8)) (h : N[i]? = none) : wayL N i (p :: r) = [(some i, 0), (none, 12)] ∧ downS N i (p :: r) = (12, 0) := by
  constructor
  · rw [wayL, h]
  · rw [downS, h]
theorem wayL_last (N : List Nd) (i : Nat) (L : List (List UInt8)) : (wayL N i L).getLast? = some (wayE N i L) := by
  induction L generalizing i with
  | nil => simp [wayL, wayE, downS]
  | cons p r ih =>
    have h : ∀ l : List (Option Nat × Int), 0 < l.length → ((some i, (0 : Int)) :: l).getLast? = l.getLast? := by
      intro l hl
      cases l with
      | nil => simp at hl
      | cons a l => rw [List.getLast?_cons_cons]
    cases hN : N[i]? with
    | none => obtain ⟨e1, e2⟩ := way_out (p := p) r hN; rw [e1, wayE, e2]; rfl
    | some d =>
      cases d with
      | file l z b => obtain ⟨e1, e2⟩ := way_file (p := p) r hN; rw [e1, wayE, e2]; rfl
      | dir l z s =>
        cases hj : lookS s p with
        | none => obtain ⟨e1, e2⟩ := way_none r hN hj; rw [e1, wayE, e2]; rfl
        | some j =>
          obtain ⟨e1, e2⟩ := way_dir r hN hj
          rw [e1, wayE, e2, h _ (wayL_pos N j r), ih j]
          rfl
theorem take_more {α : Type} {l : List α} {k : Nat} {x : α} (h : l[k]? = some x) : l.take (k + 1) = l.take k ++ [x] := by
  rw [List.take_add_one, h]; rfl
def wayV (loc : Nat → Nat) (x : Option Nat × Int) : Array Value := #[optV loc x.1, .int .i64 x.2]
/-- The k-th on the way. -/
def wayG (N : List Nd) (L : List (List UInt8)) (k : Nat) : Option Nat × Int := (wayL N 0 L).getD k (none, 0)
theorem way_any (w : World) (t : Nat) (ao : Option Addr) (n c : Nat) :
    Calls Tryz.prog 55 #[ptrV t, .slice ao n c] w fun e w' => e = .returned (.func (.func 69) #[] #[.pointer (some ⟨w.heap.size, 0, none⟩), .pointer (some ⟨w.heap.size + 1, 0, none⟩)]) ∧ w' = (w.alloc (.cells #[ptrV t] 23)).alloc (.cells #[.slice ao n c] 29) := by
  unfold ptrV
  go_enter Tryz.func55, Tryz.ntmps55
  go_wp2
  go_ret
  exact ⟨rfl, rfl⟩
theorem mem_feet {t : Nat} {Ls : List Lay} {i : Nat} {L : Lay} (h : Ls[i]? = some L) {k : Nat} (hk : k ∈ L.foot) : k ∈ feet t Ls := by
  unfold feet
  exact List.mem_cons_of_mem _ (List.mem_flatMap.2 ⟨L, List.mem_of_getElem? h, hk⟩)
theorem NdAt.lt {W : World} {loc : Nat → Nat} {L : Lay} {d : Nd} (h : NdAt W loc L d) (k : Nat) (hk : k ∈ L.foot) : k < W.heap.size := by
  cases L <;> cases d <;> simp only [NdAt] at h
  · rename_i b m r l z p
    simp only [Lay.foot, List.mem_cons] at hk
    rcases hk with rfl | rfl | hk
    · exact lt_of_block h.node
    · exact h.blocks.lt
    · obtain ⟨i, hi, e⟩ := List.getElem_of_mem hk
      obtain ⟨x, hx⟩ : ∃ x, p[i]? = some x := ⟨p[i]'(by rw [← h.len]; exact hi), List.getElem?_eq_getElem (by rw [← h.len]; exact hi)⟩
      exact lt_of_block (h.rows i x k hx (by rw [List.getElem?_eq_getElem hi, e])).1
  · simp only [Lay.foot, List.mem_cons, List.not_mem_nil, or_false] at hk
    rcases hk with rfl | rfl | rfl
    · exact lt_of_block h.node
    · exact h.places.lt
    · obtain ⟨cur, hcur, _⟩ := h.cells
      exact lt_of_block hcur
theorem TrAt.lt {W : World} {t : Nat} {σ : Tr} {Ls : List Lay} (h : TrAt W t σ Ls) (k : Nat) (hk : k ∈ feet t Ls) : k < W.heap.size := by
  rcases List.mem_cons.1 hk with rfl | hk
  · exact lt_of_block h.tree
  · obtain ⟨L, hL, hk⟩ := List.mem_flatMap.1 hk
    obtain ⟨i, hi, e⟩ := List.getElem_of_mem hL
    have h1 : Ls[i]? = some L := by rw [List.getElem?_eq_getElem hi, e]
    obtain ⟨d, hd⟩ : ∃ d, σ.nodes[i]? = some d := ⟨σ.nodes[i]'(by rw [← h.len]; exact hi), List.getElem?_eq_getElem (by rw [← h.len]; exact hi)⟩
    exact (h.node i L d h1 hd).lt k hk
/-- A tree hangs on its own blocks alone. -/
theorem TrAt.kept {W W' : World} {t : Nat} {σ : Tr} {Ls : List Lay} (h : TrAt W t σ Ls) (hk : ∀ k ∈ feet t Ls, W'.heap[k]? = W.heap[k]?) : TrAt W' t σ Ls :=
  ⟨(hk t (by simp [feet])).trans h.tree, h.len, fun i L d h1 h2 => (h.node i L d h1 h2).kept (fun k hkf => hk k (mem_feet h1 hkf)), h.apart, h.refs, h.root⟩
theorem TrAt.below {W W' : World} {t : Nat} {σ : Tr} {Ls : List Lay} (h : TrAt W t σ Ls) {n : Nat} (hn : n = W.heap.size) (hB : Below n W W') : TrAt W' t σ Ls :=
  h.kept (fun k hk => hB.block k (by rw [hn]; exact h.lt k hk))
theorem TrAt.get {W : World} {t : Nat} {σ : Tr} {Ls : List Lay} (h : TrAt W t σ Ls) {i : Nat} (hi : i < σ.nodes.length) : ∃ L d, Ls[i]? = some L ∧ σ.nodes[i]? = some d ∧ NdAt W (locL Ls) L d ∧ locL Ls i = L.b := by
  have h1 : i < Ls.length := by rw [h.len]; exact hi
  refine ⟨Ls[i], σ.nodes[i], List.getElem?_eq_getElem h1, List.getElem?_eq_getElem hi, h.node i _ _ (List.getElem?_eq_getElem h1) (List.getElem?_eq_getElem hi), ?_⟩
  simp [locL, List.getElem?_eq_getElem h1]
theorem look_ref {W : World} {t : Nat} {σ : Tr} {Ls : List Lay} (h : TrAt W t σ Ls) {i j : Nat} {l z : Int} {s : List Slt} (hd : σ.nodes[i]? = some (.dir l z s)) {p : List UInt8} (hj : lookS s p = some j) : j < σ.nodes.length := by
  rcases pf_char s p with ⟨a, _, e, _, e2⟩ | ⟨_, _, e2⟩
  · rw [hj] at e2
    cases e2
    exact h.refs _ (List.mem_of_getElem? hd) _ (List.mem_of_getElem? e)
  · rw [hj] at e2
    cases e2

set_option maxRecDepth 100000 in
set_option maxHeartbeats 4000000 in
theorem way_stops (n : Nat) (hn : 1 ≤ n) (B t : Nat) (σ : Tr) (Ls : List Lay) (ao : Option Addr) (c : Nat) (L : List (List UInt8)) (hL : ∀ p ∈ L, p.length ≤ 1000) (hll : L.length ≤ 16777216) (v w : World) (hv : Below v.heap.size v w)
    (hB : w.heap[B]? = some (.cells #[ptrV t] 23 (0, 0))) (hB1 : w.heap[B + 1]? = some (.cells #[.slice ao L.length c] 29 (0, 0))) (hT : TrAt v t σ Ls) (hS : SAt v ao L.length L) :
    SeqStopsK Fence.wide n Tryz.prog 69 #[.pointer (some ⟨B, 0, none⟩), .pointer (some ⟨B + 1, 0, none⟩)] (fun q => wayV (locL Ls) (wayG σ.nodes L q)) (Below v.heap.size) (fun ys => ys = List.range' 0 (wayL σ.nodes 0 L).length) (fun pre => ∃ k, k < (wayL σ.nodes 0 L).length ∧ pre = List.range' 0 (k + 1)) (wayL σ.nodes 0 L).length w := fun lp J Jx W hW hJ hJx hY h0 => by
  have HY := Hid.mk hY
  have hVW : Below v.heap.size v W := hv.trans (hW.mono hv.size)
  have HB0 := Hid.mk hVW
  have b0 := (hW.block B (lt_of_block hB)).trans hB
  have b1 := (hW.block (B + 1) (lt_of_block hB1)).trans hB1
  have e0 := blk_cell b0 0
  have e1 := blk_cell b1 0
  have HT := Hid.mk hT
  have e3 := blk_cell ((hVW.block t (lt_of_block hT.tree)).trans hT.tree) 3
  simp at e0 e1 e3
  have HS := Hid.mk hS
  have HLL := Hid.mk hll
  have HL := Hid.mk hL
  have H0 := Hid.mk h0
  obtain ⟨l0, z0, s0, hroot⟩ := hT.root
  have HR0 : Hid (0 < σ.nodes.length) := Hid.mk (List.getElem?_eq_some_iff.1 hroot).1
  clear hVW hv hJ hY hJx hW hB hB1 hT hS h0 b0 b1 hroot l0 z0 s0 hL hll
  unfold ptrV at *
  refine callsIn_of_wp Tryz.func69 rfl trivial ?_ rfl
  simp only [Tryz.ntmps69, List.size_toArray, List.length_cons, List.length_nil, Nat.reduceAdd, Nat.reduceSub, Array.replicate_succ, Array.replicate_zero, List.push_toArray, List.append_toArray, List.nil_append, List.cons_append]
  generalize hlen : L.length = m at *
  have HM := Hid.mk hlen
  have HYG : Hid (∀ (k : Nat) (x : Option Nat × Int) (W1 : World), (wayL σ.nodes 0 L)[k]? = some x → J (List.range' 0 k) W1 → Below v.heap.size v W1 → YieldAt Fence.wide (n - 1) Tryz.prog lp (wayV (locL Ls) x) W1 fun e W' => ∃ c : Bool, e = .returned (.bool c) ∧ Hid ((c = true ∧ J (List.range' 0 (k + 1)) W' ∧ Below v.heap.size v W') ∨ (c = false ∧ Jx (List.range' 0 (k + 1)) W'))) := Hid.mk (fun k x W1 hx hJ1 hB1 => by
    have hk := (List.getElem?_eq_some_iff.1 hx).1
    have h1 := HY.out (List.range' 0 k) k W1 hJ1 (by simp; omega)
    have e1 := range'_snoc 0 k
    rw [Nat.zero_add] at e1
    have e2 : wayG σ.nodes L k = x := by unfold wayG; rw [List.getD, hx]; rfl
    simp only [e1, e2] at h1
    exact h1.mono (fun e W' h => h.elim (fun h => ⟨true, h.1, .inl ⟨rfl, h.2.1, hB1.trans h.2.2⟩⟩) (fun h => ⟨false, h.1, .inr ⟨rfl, h.2⟩⟩)))
  clear HY
  gi_wp2
  gi_loopw [4, 15] (fun a i wr => ∃ (k j : Nat), k ≤ m ∧ i = .int .i64 k ∧ a = .pointer (some ⟨locL Ls j, 0, none⟩) ∧ Hid (j < σ.nodes.length ∧ (wayL σ.nodes 0 L).drop k = wayL σ.nodes j (L.drop k) ∧ k < (wayL σ.nodes 0 L).length ∧ Below v.heap.size v wr ∧ J (List.range' 0 k) wr)) (fun _ i _ => m - (intOf i).toNat)
  case atStart =>
    exact ⟨0, 0, by omega, rfl, rfl, Hid.mk ⟨HR0.out, rfl, wayL_pos _ _ _, HB0.out, H0.out⟩⟩
  case round =>
    obtain ⟨k, j, hk, rfl, rfl, HK⟩ := hrel
    clear e0 e1 e3
    obtain ⟨hj, hd, hkl, hbl, hJk⟩ := HK.out
    clear HK
    have hx : (wayL σ.nodes 0 L)[k]? = some (some j, 0) := by
      have : ((wayL σ.nodes 0 L).drop k)[0]? = some (some j, 0) := by
        rw [hd]
        cases L.drop k <;> simp [wayL]
      simpa using this
    obtain ⟨fn, tmps, assign, body, hy, hR⟩ := HYG.out k _ wr hx hJk hbl
    have HR := Hid.mk hR
    clear hR
    unfold wayV optV ptrV at hy
    simp only at hy
    by_cases hlt : k < m
    · have hi : (k : Int) < m := by omega
      have hw1 : IntKind.i64.wrap ((k : Int) + 1) = (k : Int) + 1 := by rw [IntKind.wrap_i64]; have := HLL.out; omega
      have hkL : k < L.length := by rw [HM.out]; exact hlt
      obtain ⟨p, hp⟩ : ∃ p, L[k]? = some p := ⟨_, List.getElem?_eq_getElem hkL⟩
      have hdr : L.drop k = p :: L.drop (k + 1) := by
        rw [List.drop_eq_getElem_cons hkL]
        rw [List.getElem?_eq_getElem hkL] at hp
        cases hp
        rfl
      have hS1 := HS.out.only (Only.of_below (S := fun q => v.heap.size ≤ q) hbl (fun q h _ => h)) (fun a ea hlt' hh => by omega)
      obtain ⟨a, ea, hc⟩ := hS1.at k hlt
      have hgp : L.getD k [] = p := by rw [List.getD, hp]; rfl
      rw [hgp] at hc
      unfold strV at hc
      have HHD := Hid.mk hd
      have HJJ := Hid.mk hj
      have HBL := Hid.mk hbl
      have HDR := Hid.mk hdr
      have HPP := Hid.mk hp
      subst ea
      clear hd hj hbl hJk hdr hkL hS1 hgp hkl hp
      gi_wp2_with fail
      refine HR.out.mono ?_
      rintro e W4 ⟨cb, rfl, HC⟩
      cases cb with
      | false =>
        have hx4 : Jx (List.range' 0 (k + 1)) W4 := by simpa [Hid] using HC
        have HX4 := Hid.mk hx4
        have HKL : Hid (k < (wayL σ.nodes 0 L).length) := Hid.mk (List.getElem?_eq_some_iff.1 hx).1
        clear HC hx4 hy HR hx
        gi_wp2
        refine bodyPost_ret (results_none rfl _ _ _) rfl ?_
        exact ⟨⟨_, rfl⟩, .inr ⟨_, ⟨k, HKL.out, rfl⟩, HX4.out⟩⟩
      | true =>
        obtain ⟨hJ4, hB4⟩ : J (List.range' 0 (k + 1)) W4 ∧ Below v.heap.size v W4 := by simpa [Hid] using HC
        have hT4 := HT.out.below rfl hB4
        obtain ⟨lay, d, hl, hdn, hnd, hloc⟩ := hT4.get HJJ.out
        have HDN := Hid.mk hdn
        have hhd := HHD.out
        rw [HDR.out] at hhd
        cases d with
        | file l z b =>
          obtain ⟨f1, f2⟩ := way_file (p := p) (L.drop (k + 1)) hdn
          rw [f1] at hhd
          have hx2 : (wayL σ.nodes 0 L)[k + 1]? = some (none, 12) := by
            have : ((wayL σ.nodes 0 L).drop k)[1]? = some (none, 12) := by rw [hhd]; rfl
            simpa using this
          have hln : (wayL σ.nodes 0 L).length = k + 2 := by
            have := congrArg List.length hhd
            simp at this
            omega
          obtain ⟨fn2, tmps2, assign2, body2, hy2, hR2⟩ := HYG.out (k + 1) _ W4 hx2 hJ4 hB4
          unfold wayV optV at hy2
          simp only at hy2
          obtain ⟨x4, x5, x6, hhead⟩ := hnd.head
          rw [← hloc] at hhead
          have g0 := blk_cell hhead 0
          simp [Nd.kind] at g0
          have HR2 := Hid.mk hR2
          have HLN := Hid.mk hln
          clear hR2 hy hJ4 hT4 hnd hhead hhd f1 f2 hx hx2 hln hl hdn HC HR hB4 hloc
          gi_wp2_with fail
          refine HR2.out.mono ?_
          rintro e W5 ⟨cb, rfl, HC⟩
          gi_wp2_with fail
          refine bodyPost_ret (results_none rfl _ _ _) rfl ?_
          refine ⟨⟨_, rfl⟩, ?_⟩
          rcases HC.out with ⟨_, h1, _⟩ | ⟨_, h1⟩
          · refine .inl ⟨_, rfl, ?_⟩
            rw [HLN.out]
            exact h1
          · exact .inr ⟨_, ⟨k + 1, by rw [HLN.out]; omega, rfl⟩, h1⟩
        | dir l z s =>
          obtain ⟨b, m', r, cc, rfl, hdr⟩ := hnd.kind_dir
          have g0 := blk_cell hdr.node 0
          simp at g0
          have hbl : locL Ls j = b := hloc
          rw [← hbl] at g0
          have HLK : Hid (∀ W1, _ → _) := Hid.mk (fun W1 (h1 : DrAt W1 (locL Ls) b m' r cc l z s) => look_any W1 (locL Ls) b m' r cc l z s h1 p (HL.out p (List.mem_of_getElem? HPP.out)))
          have HDD := Hid.mk hdr
          cases hlk : lookS s p with
          | none =>
            obtain ⟨f1, f2⟩ := way_none (L.drop (k + 1)) hdn hlk
            rw [f1] at hhd
            have hx2 : (wayL σ.nodes 0 L)[k + 1]? = some (none, 10) := by
              have : ((wayL σ.nodes 0 L).drop k)[1]? = some (none, 10) := by rw [hhd]; rfl
              simpa using this
            have hln : (wayL σ.nodes 0 L).length = k + 2 := by
              have := congrArg List.length hhd
              simp at this
              omega
            obtain ⟨fn2, tmps2, assign2, body2, hy2, hR2⟩ := HYG.out (k + 1) _ W4 hx2 hJ4 hB4
            unfold wayV optV at hy2
            simp only at hy2
            have HR2 := Hid.mk hR2
            have HLN := Hid.mk hln
            rw [hlk] at HLK
            have HLK4 := Hid.mk (callsIn_wide (n := n - 1) |>.2 (HLK.out W4 HDD.out))
            rw [← hbl] at HLK4
            unfold optV ptrV strV at HLK4
            clear hR2 hy hJ4 hT4 hdr hhd f1 f2 hx hx2 hln hl hdn HC HR hB4 HLK hnd hloc hbl
            gi_wp2_with (refine ⟨trivial, ?_⟩; gi_at_call 58; refine HLK4.out.mono ?_; rintro e W5 ⟨rfl, hW5⟩; subst W5)
            refine HR2.out.mono ?_
            rintro e W5 ⟨cb, rfl, HC⟩
            gi_wp2_with fail
            refine bodyPost_ret (results_none rfl _ _ _) rfl ?_
            refine ⟨⟨_, rfl⟩, ?_⟩
            rcases HC.out with ⟨_, h1, _⟩ | ⟨_, h1⟩
            · refine .inl ⟨_, rfl, ?_⟩
              rw [HLN.out]
              exact h1
            · exact .inr ⟨_, ⟨k + 1, by rw [HLN.out]; omega, rfl⟩, h1⟩
          | some q =>
            obtain ⟨f1, f2⟩ := way_dir (L.drop (k + 1)) hdn hlk
            rw [f1] at hhd
            rw [hlk] at HLK
            have HLK4 := Hid.mk (callsIn_wide (n := n - 1) |>.2 (HLK.out W4 HDD.out))
            rw [← hbl] at HLK4
            unfold optV ptrV strV at HLK4
            have HFIN : Hid (q < σ.nodes.length ∧ (wayL σ.nodes 0 L).drop (k + 1) = wayL σ.nodes q (L.drop (k + 1)) ∧ k + 1 < (wayL σ.nodes 0 L).length ∧ Below v.heap.size v W4 ∧ J (List.range' 0 (k + 1)) W4) := Hid.mk ⟨look_ref hT4 hdn hlk, by rw [← List.tail_drop, hhd]; rfl, by
              have h1 := congrArg List.length hhd
              have h2 := wayL_pos σ.nodes q (L.drop (k + 1))
              simp at h1
              omega, hB4, hJ4⟩
            clear hy hJ4 hT4 hdr hhd f1 f2 hx hl hdn HC HR hB4 HLK hnd hloc hbl
            gi_wp2_with (refine ⟨trivial, ?_⟩; gi_at_call 58; refine HLK4.out.mono ?_; rintro e W5 ⟨rfl, hW5⟩; subst W5)
            refine ⟨⟨k + 1, q, by omega, by simp, rfl, HFIN⟩, ?_⟩
            simp [intOf]
            omega
    · obtain rfl : k = m := by omega
      have hi : ¬ (k : Int) < (k : Nat) := by omega
      have HHD := Hid.mk hd
      have HLN : Hid ((wayL σ.nodes 0 L).length = k + 1) := Hid.mk (by
        have e : L.drop k = [] := List.drop_of_length_le (by rw [HM.out]; omega)
        rw [e] at hd
        have := congrArg List.length hd
        simp [wayL] at this
        omega)
      clear hd hj hbl hJk hkl
      gi_wp2_with fail
      refine HR.out.mono ?_
      rintro e W5 ⟨cb, rfl, HC⟩
      gi_wp2_with fail
      go_end0
      refine ⟨⟨_, rfl⟩, ?_⟩
      rcases HC.out with ⟨_, h1, _⟩ | ⟨_, h1⟩
      · refine .inl ⟨_, rfl, ?_⟩
        rw [HLN.out]
        exact h1
      · exact .inr ⟨_, ⟨k, by rw [HLN.out]; omega, rfl⟩, h1⟩
end Go.Proofs.YtehaoeclnmelhacGreat
namespace Go.Proofs.YtehaoeclnmelhacGreat
open Go Go.Proofs Go.RowKit Go.Shelf

section
variable {F : Fence} {n : Nat} {P : Program}
theorem range_assigned {α : Type} {g : Operand} {ps : Array Tmp} {assign body : Code} {Q : Exit → Act → World → Prop} {a : Act} {w : World} (hro : F.round = none) (h1 : 1 ≤ n) {gf : Nat} {lb : Array Value} (hg : a.eval g = .func (.func gf) #[] lb) (hFg : F.fn gf) (eg : ∀ args w, (callFunc gf args).run P w = .ok (.enter gf args) w)
    {encs : α → Array Value} {Kp : World → World → Prop} {S Sp : List α → Prop} {N : Nat} {w0 : World} (hseq : SeqStopsK F (n - 1) P gf lb encs Kp S Sp N w0)
    (hKt : ∀ {A B C : World}, Kp A B → Kp B C → Kp A C) (hKb : ∀ (W : World) (l : Nat) (o o' : Obj), w.heap.size ≤ l → W.heap[l]? = some o → o.isCells = false → o.isWalk = false → Kp W (W.putObj l o')) (hb0 : Below w0.heap.size w0 w) (hps : ∀ x, (encs x).size = ps.size)
    (I : List α → World → Prop) (hI : OwnFrom w.heap.size I) (h0 : I [] w)
    (hround : ∀ (l : Nat) (pre : List α) (x : α) (W : World) (K : Act → World → Prop), I pre W → pre.length < N → (∀ a' W', KeepsFrom w.heap.size W W' → Kp W W' → I (pre ++ [x]) W' → K a' W') →
      assign.wpIn (F.inRound l) (n - 1 - 1) P (Exit.then K (fun _ _ _ => False)) { tmps := (ps.zip (encs x)).foldl (fun t (p, v) => t.setIfInBounds p v) a.tmps, defers := [] } W)
    (hskip : ∀ (F' : Fence) (m : Nat) (R : Exit → Act → World → Prop) (b : Act) (W : World), R .normal b W → body.wpIn F' m P R b W)
    (hdone : ∀ (D : Nat) (xs : List α) (W : World), w.heap.size ≤ D → S xs → I xs W → W.heap[D]? = some (.deferred (some [])) → Q .normal { a with defers := { target := .collected D, args := #[] } :: a.defers } W) :
    (Code.rangeFunc g ps assign body).wpIn F n P Q a w := by
  refine wpIn_rangeFunc ?_
  intro fn hfn
  rw [hro]
  let lp : LoopState → Option Code → Loop := fun st pe => { state := st, pending := pe, fn, tmps := a.tmps, params := ps, assign, body, defers := w.heap.size }
  let U := (w.alloc (.deferred (some []))).alloc (.loop (lp .ready none))
  have hsU : U.heap.size = w.heap.size + 2 := by simp [U]
  have uL : U.heap[w.heap.size + 1]? = some (.loop (lp .ready none)) := by
    have := World.alloc_heap_new (w.alloc (.deferred (some []))) (.loop (lp .ready none))
    rwa [World.size_alloc] at this
  have uD : U.heap[w.heap.size]? = some (.deferred (some [])) := (Below.heap_alloc _ _ _ (by simp)).trans (World.alloc_heap_new w _)
  refine ⟨w.heap.size + 1, [{ target := .collected w.heap.size, args := #[] }], U, { target := .fn (.func gf) lb, args := #[.func (.yield (w.heap.size + 1)) #[] #[]] }, U, gf, #[.func (.yield (w.heap.size + 1)) #[] #[]] ++ lb, U, ?_, ?_, ?_, ?_, fun _ => h1, ?_⟩
  · exact run_enterLoop_outer _ _ _ _ _
  · simp only [resolve, hg]
    simp [go_sem]
  · intro f' hf'
    simp [Target.leads] at hf'
    subst hf'
    exact hFg
  · simp [invoke, go_sem, eg]
  have keep : ∀ {A B : World} {row : Option Nat}, (∀ r, row = some r → U.heap.size ≤ r ∧ ∃ o : Obj, A.heap[r]? = some o ∧ o.isWalk = true) → (∀ r, row = some r → w.heap.size ≤ r ∧ ∃ o : Obj, A.heap[r]? = some o ∧ o.isCells = false) := fun hr r e => by
    obtain ⟨q1, o, q2, q3⟩ := hr r e
    exact ⟨by omega, o, q2, Obj.not_cells_of_walk q3⟩
  have run := hseq (w.heap.size + 1) (fun pre W => I pre W ∧ W.heap[w.heap.size + 1]? = some (.loop (lp .ready none)) ∧ W.heap[w.heap.size]? = some (.deferred (some []))) (fun _ _ => False) U
    (hb0.trans ((((Below.refl _ w).alloc (Nat.le_refl _) _).alloc (by simp) _).mono hb0.size))
    (fun s A B row hs hg' hr => ⟨hI s A B row hs.1 hg' (keep (B := B) hr), (grownBy_keeps hg' (fun r e => (hr r e).2) hs.2.1 rfl).trans hs.2.1, (grownBy_keeps hg' (fun r e => (hr r e).2) hs.2.2 rfl).trans hs.2.2⟩)
    (fun _ _ _ _ hs => hs.elim)
  refine (run ?_ ⟨hI.alloc _ (hI.alloc _ h0), uL, uD⟩).mono ?_
  · rintro pre x W ⟨hi, hl, hd⟩ hlen
    refine ⟨fn, _, assign, body, run_yield (P := P) (args := encs x) hl (hps x), roundIn_of_wpIn hfn (hround _ pre x W _ hi hlen ?_)⟩
    intro a' V k1 k2 hi'
    have vL := k1.same _ _ (by omega) hl rfl
    have vD := k1.same _ _ (Nat.le_refl _) hd rfl
    have hlt : w.heap.size + 1 < V.heap.size := (Array.getElem?_eq_some_iff.1 vL).1
    refine ⟨_, run_beginRound vL rfl, hskip _ _ _ _ _ ?_⟩
    have busyL : (V.putObj (w.heap.size + 1) (.loop { lp .ready none with state := .busy })).heap[w.heap.size + 1]? = some (.loop { lp .ready none with state := .busy }) := World.putObj_heap_same hlt
    have busyD : (V.putObj (w.heap.size + 1) (.loop { lp .ready none with state := .busy })).heap[w.heap.size]? = some (.deferred (some [])) := (World.putObj_heap_other (by omega)).trans vD
    have hi2 := hI.putObj (.loop { lp .ready none with state := .busy }) hi' (by omega) vL rfl
    have kp1 := hKb V (w.heap.size + 1) _ (.loop { lp .ready none with state := .busy }) (by omega) vL rfl rfl
    generalize V.putObj (w.heap.size + 1) (.loop { lp .ready none with state := .busy }) = V2 at *
    have hr := run_endRound (P := P) none busyL
    refine ⟨_, _, hr, .inl ⟨rfl, ⟨hI.putObj _ hi2 (by omega) busyL rfl, World.putObj_heap_same (Array.getElem?_eq_some_iff.1 busyL).1, (World.putObj_heap_other (by omega)).trans busyD⟩, hKt k2 (hKt kp1 (hKb _ _ _ _ (by omega) busyL rfl rfl))⟩⟩
  · rintro e V ⟨⟨v, rfl⟩, (⟨xs, hS, hi, hl, hd⟩ | ⟨_, _, hf⟩)⟩
    · exact ⟨none, _, run_endLoop (P := P) hl (by simp [lp]), hdone _ xs _ (Nat.le_refl _) hS (hI.putObj _ hi (by omega) hl rfl) ((World.putObj_heap_other (by omega)).trans hd)⟩
    · exact hf.elim
end
end Go.Proofs.YtehaoeclnmelhacGreat
