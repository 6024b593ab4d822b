/-
  Rows of ints: one more, what lies in one, and whether two are one.
-/
import Derived.Test.YthmbhcmicebcpaaDpSet
import Derived.Laws.AppendOwn
namespace Go.Proofs.Ythmbhcmicebcpaa
open Go Go.Proofs Go.RowKit Go.Shelf
theorem below_drewN' (w : World) (n B : Nat) (h : B ≤ w.heap.size) : Below B w (w.drewN n) := (show Below w.heap.size w (w.drewN n) from ⟨rfl, rfl, rfl, Nat.le_refl _, fun _ _ => rfl⟩).mono h
theorem appendi_one (W : World) (B : Nat) (v : Value) (n : Nat) (xs : List Int) (hown : W.ownsRow B 3 1 v n (Iy xs)) (hB : B ≤ W.heap.size) (x : Int) (hn : n + 1 ≤ 16777216) :
    ∃ v' W', (Builtin.append_ #[23, 23] 23 #[v, .slice (some ⟨W.heap.size, 0, none⟩) 1 1]).run Try.prog (W.alloc (.cells #[.int .i64 x] 3)) = .ok v' W' ∧ W'.ownsRow B 3 1 v' (n + 1) (Iy (xs ++ [x])) ∧ Below B W W' := by
  obtain ⟨i0, hi, hz0, hz1, hz2⟩ := info3p
  have h1 : (W.alloc (.cells #[.int .i64 x] 3)).ownsRow B 3 1 v n (Iy xs) := hown.alloc _
  have hb := blk_new W (.cells #[.int .i64 x] 3)
  have hsz : (W.alloc (.cells #[.int .i64 x] 3)).heap.size = W.heap.size + 1 := by simp
  obtain ⟨v3, W3, hr, hown3, hg3, _⟩ := run_append_own (P := Try.prog) (W.alloc (.cells #[.int .i64 x] 3)) B 23 23 3 i0 (.int .i64 0) 1 8 Try.underlying23 hi hz0 hz1 hz2 rfl (by decide) v n (Iy xs) h1 ⟨W.heap.size, 0, none⟩ 1 1 [.int .i64 x] (by simp) (fun j u hj => by
    have hj0 : j = 0 := by
      have := (List.getElem?_eq_some_iff.1 hj).1
      simp at this
      exact this
    subst hj0
    simp at hj
    rw [add_at, blk_cell hb]
    simp [hj]) (fun u hu => by simp at hu; rw [hu]; rfl) (by unfold maxLen; omega) (by omega) (by omega)
  refine ⟨v3, W3, hr, ?_, ((Below.refl B W).alloc hB _).grown hg3 (by omega) (fun k hk => ?_)⟩
  · rw [show Iy (xs ++ [x]) = Iy xs ++ [.int .i64 x] by simp [Iy]]
    exact hown3
  · exact (hown.lt k hk).1
theorem appendi_own (W : World) (B : Nat) (v : Value) (n : Nat) (xs : List Int) (hown : W.ownsRow B 3 1 v n (Iy xs)) (hB : B ≤ W.heap.size) (x : Int) (hn : n + 1 ≤ 16777216) :
    ∃ v' W', (Builtin.append_ #[23, 23] 23 #[v, .slice (some ⟨W.heap.size, 0, none⟩) 1 1]).run Try.prog (W.alloc (.cells #[.int .i64 x] 3)) = .ok v' W' ∧ W'.ownsRow B 3 1 v' (n + 1) (Iy (xs ++ [x])) ∧ Only (fun k => v.ownBlock = some k) W W' ∧ (v'.ownBlock = v.ownBlock ∨ ∀ k, v'.ownBlock = some k → W.heap.size ≤ k) := by
  obtain ⟨i0, hi, hz0, hz1, hz2⟩ := info3p
  have h1 : (W.alloc (.cells #[.int .i64 x] 3)).ownsRow B 3 1 v n (Iy xs) := hown.alloc _
  have hb := blk_new W (.cells #[.int .i64 x] 3)
  have hsz : (W.alloc (.cells #[.int .i64 x] 3)).heap.size = W.heap.size + 1 := by simp
  obtain ⟨v3, W3, hr, hown3, hg3, hv3⟩ := run_append_own (P := Try.prog) (W.alloc (.cells #[.int .i64 x] 3)) B 23 23 3 i0 (.int .i64 0) 1 8 Try.underlying23 hi hz0 hz1 hz2 rfl (by decide) v n (Iy xs) h1 ⟨W.heap.size, 0, none⟩ 1 1 [.int .i64 x] (by simp) (fun j u hj => by
    have hj0 : j = 0 := by
      have := (List.getElem?_eq_some_iff.1 hj).1
      simp at this
      exact this
    subst hj0
    simp at hj
    rw [add_at, blk_cell hb]
    simp [hj]) (fun u hu => by simp at hu; rw [hu]; rfl) (by unfold maxLen; omega) (by omega) (by omega)
  refine ⟨v3, W3, hr, ?_, ((Only.refl (fun k => v.ownBlock = some k) W).alloc _).grown hg3 (fun k hk => .inl hk), ?_⟩
  · rw [show Iy (xs ++ [x]) = Iy xs ++ [.int .i64 x] by simp [Iy]]
    exact hown3
  · have hnews : ∀ j u, ([.int .i64 x] : List Value)[j]? = some u → (W.alloc (.cells #[.int .i64 x] 3)).cell? ((⟨W.heap.size, 0, none⟩ : Addr).add j) = some u := fun j u hj => by
      have hj0 : j = 0 := by
        have := (List.getElem?_eq_some_iff.1 hj).1
        simp at this
        exact this
      subst hj0
      simp at hj
      rw [add_at, blk_cell hb]
      simp [hj]
    rcases h1.2 with ⟨rfl, rfl⟩ | ⟨g, cap, cur, rfl, hbg, hg, hnc, hcm, hcs, htake⟩
    · have hr2 := run_append_nil (P := Try.prog) (W.alloc (.cells #[.int .i64 x] 3)) 23 23 3 i0 (.int .i64 0) Try.underlying23 hi hz0 ⟨W.heap.size, 0, none⟩ 1 1 [.int .i64 x] (by simp [hz1]) hnews (by omega) (by omega) (by rw [hz2]; omega)
      rw [hr] at hr2
      injection hr2 with e1 e2
      rw [e1]
      refine .inr (fun k hk => ?_)
      simp [Value.ownBlock] at hk
      omega
    · by_cases hroom : n + 1 ≤ cap
      · have hr2 := run_append_room (P := Try.prog) (W.alloc (.cells #[.int .i64 x] 3)) 23 23 3 i0 Try.underlying23 hi g n cap cur hg ⟨W.heap.size, 0, none⟩ 1 1 [.int .i64 x] (by simp [hz1]) hnews (fun u hu => by simp at hu; rw [hu]; rfl) hroom (by rw [hz1, hcs]; simp; omega)
        rw [hr] at hr2
        injection hr2 with e1 e2
        rw [e1]
        exact .inl rfl
      · have hr2 := run_append_grow (P := Try.prog) (W.alloc (.cells #[.int .i64 x] 3)) 23 23 3 i0 (.int .i64 0) Try.underlying23 hi hz0 ⟨g, 0, none⟩ n cap (Iy xs) (by rw [hz1]; exact h1.1) (h1.cells (g := g) rfl) ⟨W.heap.size, 0, none⟩ 1 1 [.int .i64 x] (by simp [hz1]) hnews (by omega) (by omega) (growslice_fits (by omega) (by rw [hz2]; omega))
        rw [hr] at hr2
        injection hr2 with e1 e2
        rw [e1]
        refine .inr (fun k hk => ?_)
        simp [Value.ownBlock] at hk
        omega
theorem owns_ints {w : World} {base : Nat} {v : Value} {n : Nat} {xs : List Int} (h : w.ownsRow base 3 1 v n (Iy xs)) (hn : 0 < n) : ∃ g c, v = .slice (some ⟨g, 0, none⟩) n c ∧ n ≤ c ∧ base ≤ g ∧ g < w.heap.size ∧ LAt w (some ⟨g, 0, none⟩) n xs ∧ ∀ i, i < n → w.cell? ⟨g, i, none⟩ = some (.int .i64 (xs.getD i 0)) := by
  have hlt := h
  obtain ⟨h1, h2⟩ := h
  rw [Iy_length, Nat.mul_one] at h1
  rcases h2 with ⟨_, rfl⟩ | ⟨g, cap, cur, rfl, hg, hh, hnc, hm, hsz, ht⟩
  · omega
  · have hgl := (hlt.lt g rfl).2
    have hc : ∀ i, i < n → w.cell? ⟨g, i, none⟩ = some (.int .i64 (xs.getD i 0)) := fun i hi => by
      rw [blk_cell hh, ← Array.getElem?_toList]
      have : (cur.toList.take (n * 1))[i]? = (Iy xs)[i]? := by rw [ht]
      rw [List.getElem?_take, if_pos (by omega), Iy_get xs i (by omega)] at this
      exact this
    exact ⟨g, cap, rfl, hnc, hg, hgl, ⟨h1, fun _ => ⟨_, rfl, hgl, fun i hi => by rw [add_at, Nat.zero_add]; exact hc i hi⟩⟩, hc⟩
theorem exec_storeI {ev : Operand → Value} {oi : Oper} {p x : Operand} {a : Addr} {ao : Option Addr} {l c : Nat} {v : Value} {W : World} (ho : oi.op = .store 23 p x) (hp : ev p = .pointer (some a)) (hx : ev x = .slice ao l c) (hc : W.cell? a = some v) (hf : W.frozen? a = false) : (execOp ev oi).run Try.prog W = .ok .skip (W.setCell a (.slice ao l c)) := by
  refine exec_store ho hp hx ?_
  simp [go_sem, hc, hf]
theorem exec_one3 {ev : Operand → Value} {oi : Oper} {x : Operand} {p : Int} {W : World} (ho : oi.op = .buildSlice 23 1 #[(0, x)]) (hx : ev x = .int .i64 p) : (execOp ev oi).run Try.prog W = .ok (.value (.slice (some ⟨W.heap.size, 0, none⟩) 1 1)) (W.alloc (.cells #[.int .i64 p] 3)) := by
  obtain ⟨i0, hi, hz0, hz1, hz2⟩ := info3p
  unfold execOp
  rw [ho]
  simp only [hx, List.map_toArray, List.map_cons, List.map_nil]
  simp [Instr.buildSlice, run_underlying Try.underlying23, zeroValue, typeInfo, hi, hz0, hz1, newRow, Value.cells, Instr.fill, sizeOf]
  rw [show Array.range 1 = #[0] from by decide]
  simp
theorem exec_append {P : Program} {ev : Operand → Value} {oi : Oper} {s x : Operand} {t u : TypeId} {v vx v' : Value} {w w' : World} (ho : oi.op = .call { callee := .builtin .append, args := #[s, x], argTypes := #[t, u] }) (hs : ev s = v) (hx : ev x = vx) (hrun : (Builtin.append_ #[t, u] oi.type #[v, vx]).run P w = .ok v' w') : (execOp ev oi).run P w = .ok (.value v') w' := by
  unfold execOp
  simp only [ho, resolve, invoke, builtin, Sem.run_bind, Sem.run_pure, Result.andThen_ok, List.map_toArray, List.map_cons, List.map_nil, hs, hx, hrun]
/-- A row of ints that is owned, none too. -/
theorem owns_lat {w : World} {base : Nat} {v : Value} {n : Nat} {xs : List Int} (h : w.ownsRow base 3 1 v n (Iy xs)) : ∃ ao c, v = .slice ao n c ∧ LAt w ao n xs := by
  rcases Nat.eq_zero_or_pos n with h0 | h0
  · subst h0
    have hl : xs = [] := by
      have := h.1
      simp [Iy] at this
      exact this
    subst hl
    rcases h.2 with ⟨hv, _⟩ | ⟨g, cap, cur, hv, _⟩
    · exact ⟨none, 0, hv, rfl, fun h => by omega⟩
    · exact ⟨_, cap, hv, rfl, fun h => by omega⟩
  · obtain ⟨g, c, hv, _, _, _, hl, _⟩ := owns_ints h h0
    exact ⟨_, c, hv, hl⟩
theorem LAt.below {W W' : World} {ao : Option Addr} {n B : Nat} {xs : List Int} (h : LAt W ao n xs) (hB : Below B W W') (ha : ∀ a, ao = some a → a.block < W.heap.size → a.block < B) : LAt W' ao n xs :=
  ⟨h.1, fun h0 => by
    obtain ⟨a, e, hl, hc⟩ := h.2 h0
    exact ⟨a, e, Nat.lt_of_lt_of_le hl hB.size, fun i hi => by rw [hB.cell (p := a.add i) (by rw [add_block]; exact ha a e hl)]; exact hc i hi⟩⟩
theorem LAt.next {W W' : World} {ao : Option Addr} {n : Nat} {xs : List Int} (h : LAt W ao n xs) (hB : Below W.heap.size W W') : LAt W' ao n xs := h.below hB (fun _ _ h => h)
set_option maxRecDepth 100000 in
set_option maxHeartbeats 4000000 in
theorem sameints_any (w : World) (a b : Option Addr) (n m c d : Nat) (L M : List Int) (hL : LAt w a n L) (hM : LAt w b m M) (hn : n ≤ 16777216) (hm : m ≤ 16777216) :
    Calls Try.prog 15 #[.slice a n c, .slice b m d] w fun e w' => e = .returned (.bool (decide (L = M))) ∧ Below w.heap.size w w' := by
  by_cases hnm : n = m
  · subst hnm
    have HBW : Hid (∀ wr, Below w.heap.size w wr → LAt wr a n L ∧ LAt wr b n M) := Hid.mk (fun wr h => ⟨hL.next h, hM.next h⟩)
    have HLL := Hid.mk hL.1
    have HML := Hid.mk hM.1
    clear hL hM
    go_enter Try.func15, Try.ntmps15
    go_wp2
    go_loopw [5] (fun i wr => ∃ k : Nat, i = .int .i64 k ∧ k ≤ n ∧ Hid (∀ j, j < k → L.getD j 0 = M.getD j 0) ∧ Hid (Below w.heap.size w wr)) (fun i _ => n - (Go.RowKit.intOf i).toNat)
    case atStart => exact ⟨0, rfl, Nat.zero_le _, Hid.mk (fun j hj => by omega), Hid.mk (Below.refl _ _)⟩
    case round =>
      obtain ⟨k, rfl, hk, HA, HB⟩ := hrel
      obtain ⟨h1, h2⟩ := HBW.out wr HB.out
      have hw1 : IntKind.i64.wrap ((k : Int) + 1) = (k : Int) + 1 := by rw [IntKind.wrap_i64]; omega
      by_cases hlt : k < n
      · have hi : (k : Int) < n := by omega
        obtain ⟨a', rfl, c1⟩ := h1.at k hlt
        obtain ⟨b', rfl, c2⟩ := h2.at k hlt
        clear h1 h2
        by_cases he : L.getD k 0 = M.getD k 0
        · have HA2 : Hid (∀ j, j < k + 1 → L.getD j 0 = M.getD j 0) := Hid.mk (fun j hj => by
            rcases Nat.lt_or_ge j k with h | h
            · exact HA.out j h
            · obtain rfl : j = k := by omega
              exact he)
          rw [he] at c1
          generalize M.getD k 0 = y at *
          generalize L.getD k 0 = x at *
          clear he
          go_wp2
          go_quiet (fail)
          go_wp2
          go_roundw
          case rel => exact ⟨k + 1, by go_num, by omega, HA2, Hid.mk (HB.out.trans (below_drewN' _ _ _ HB.out.size))⟩
          case measure => simp [Go.RowKit.intOf]; omega
        · have HD : Hid (decide (L = M) = false) := Hid.mk (decide_eq_false (fun e => he (by rw [e])))
          have he2 : (L.getD k 0 == M.getD k 0) = false := by simpa using he
          generalize M.getD k 0 = y at *
          generalize L.getD k 0 = x at *
          go_wp2
          go_quiet (fail)
          go_wp2
          go_ret
          exact ⟨by rw [HD.out]; rfl, HB.out.trans (below_drewN' _ _ _ HB.out.size)⟩
      · have hi : ¬ (k : Int) < n := by omega
        have HD : Hid (decide (L = M) = true) := Hid.mk (decide_eq_true (by
          have e1 := HLL.out
          have e2 := HML.out
          refine List.ext_getElem (by omega) (fun j h1 h2 => ?_)
          have := HA.out j (by omega)
          simpa [List.getD, List.getElem?_eq_getElem h1, List.getElem?_eq_getElem h2] using this))
        clear h1 h2
        go_wp2
        go_ret
        exact ⟨by rw [HD.out]; rfl, HB.out⟩
  · have HD : Hid (decide (L = M) = false) := Hid.mk (decide_eq_false (fun e => hnm (by rw [← hL.1, ← hM.1, e])))
    have h1 : ¬ (n : Int) = m := by omega
    have h2 : ((n : Int) == m) = false := by simpa using h1
    clear hL hM
    go_enter Try.func15, Try.ntmps15
    go_wp2
    go_ret
    exact ⟨by rw [HD.out]; rfl, Below.refl _ _⟩
end Go.Proofs.Ythmbhcmicebcpaa
