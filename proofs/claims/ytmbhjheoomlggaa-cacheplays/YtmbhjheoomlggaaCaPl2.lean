/-
  CachePlays: what its walk leans on.
-/
import Derived.Test.YtmbhjheoomlggaaCaPl
namespace Go.Proofs.Ytmbhjheoomlggaa
open Go Go.Proofs Go.RowKit Go.Shelf
theorem wpList_knownA {P : Program} {w : World} {ops : Array Oper} {rest : List Oper} {o : Oper} {a : Act} {Q : Exit → Act → World → Prop} (hw : Region.wanted o (yielded ops a.tmps) = true) (v : Value) (w' : World)
    (hrun : (execOp a.eval o).run P w = .ok (.value v) w') (h : wpList P ops Q rest (a.put o.dst v) w') : wpList P ops Q (o :: rest) a w := by
  refine BigFrame.wpList_want hw fun K hK => ?_
  unfold Oper.wp
  rw [hrun, Oper.upon_value]
  exact hK _ _ h
theorem wpL_convB {w : World} {ops : Array Oper} {rest : List Oper} {o : Oper} {a : Act} {Q : Exit → Act → World → Prop} (x : Operand) (ho : o.op = .convert 35 9 x) (hw : Region.wanted o (yielded ops a.tmps) = true) (ao : Option Addr) (n c : Nat) (xs : List Int) (hx : a.eval x = .slice ao n c) (hB : BAt w ao n xs) (SX : ByteArray) (hS : SX = strOfNums xs) (h : wpList Try.prog ops Q rest (a.put o.dst (.string SX)) w) : wpList Try.prog ops Q (o :: rest) a w := by
  subst hS
  exact wpList_knownA hw _ _ (exec_convert ho hx (conv_bytes w ao n c xs hB)) h
theorem BAt.nil2 (W : World) : BAt W none 0 [] := ⟨rfl, fun h => by omega⟩
theorem row_kx {W W' : World} {base g n cap : Nat} {xs : List Value} (h : W.ownsRow base 5 1 (.slice (some ⟨g, 0, none⟩) n cap) n xs) (hk : W'.heap[g]? = W.heap[g]?) : W'.ownsRow base 5 1 (.slice (some ⟨g, 0, none⟩) n cap) n xs := by
  obtain ⟨h1, h2⟩ := h
  refine ⟨h1, ?_⟩
  rcases h2 with h2 | ⟨g', cap', cur, hv, hg, hh, hr⟩
  · cases h2.1
  · cases hv
    exact .inr ⟨g, cap, cur, rfl, hg, hk.trans hh, hr⟩
theorem row_new {W : World} {g : Nat} {xs : List Int} (h : RAt W g xs) (hl : xs.length = 1024) : W.ownsRow 0 5 1 (.slice (some ⟨g, 0, none⟩) 1024 1024) 1024 (By xs) := by
  refine ⟨by rw [By_length, hl], .inr ⟨g, 1024, _, rfl, Nat.zero_le _, h, Nat.le_refl _, by decide, by simp [By_length, hl], ?_⟩⟩
  rw [List.take_of_length_le (by simp [By_length, hl])]
theorem row_bat {W : World} {base g n cap : Nat} {xs : List Int} (h : W.ownsRow base 5 1 (.slice (some ⟨g, 0, none⟩) n cap) n (By xs)) : BAt W (some ⟨g, 0, none⟩) n xs := by
  obtain ⟨ao, c, hv, hB, _⟩ := owns_BAt h
  cases hv
  exact hB
theorem bat_take {W : World} {ao : Option Addr} {n : Nat} {xs : List Int} (h : BAt W ao n xs) (k : Nat) (hk : k ≤ n) : BAt W ao k (xs.take k) := by
  refine ⟨by rw [List.length_take, h.1]; omega, fun h0 => ?_⟩
  obtain ⟨a, e, hl, hc⟩ := h.2 (by omega)
  refine ⟨a, e, hl, fun i hi => ?_⟩
  rw [hc i (by omega), List.getD_eq_getElem?_getD, List.getD_eq_getElem?_getD, List.getElem?_take, if_pos hi]
/-- A new row beside a cache and its model. -/
theorem q_block {X : Nat → Prop} {w W : World} {c d mm e size : Nat} {ra rm : Int} {ks : List Kb} {sa se : Dk.DS} {lv : Value} {ms : List Md} (h : Pq X w W c d mm e size ra ks sa rm lv ms se) (v : Int) :
    Calls Try.prog 16 #[.int .i64 v] W fun r W' => ∃ g, r = .returned (.slice (some ⟨g, 0, none⟩) 1024 1024) ∧ W'.ownsRow 0 5 1 (.slice (some ⟨g, 0, none⟩) 1024 1024) 1024 (By (blkV v)) ∧ W.heap.size ≤ g ∧ Pq (fun k => X k ∨ k = g) w W' c d mm e size ra ks sa rm lv ms se ∧ Below W.heap.size W W' := by
  refine (block_any W v).mono ?_
  rintro r W' ⟨rfl, hR, hB⟩
  refine ⟨_, rfl, row_new hR (blkV_length v), Nat.le_refl _, h.side (Only.of_new X hB) (fun k hk => ?_), hB⟩
  rcases hk with hk | rfl
  · obtain ⟨Fa, Fm, Fe, h⟩ := h
    exact h.same hB.size k hk
  · exact ⟨lt_of_block hR, .inr (Nat.le_refl _)⟩
theorem Pq.xlt {X : Nat → Prop} {w W : World} {c d mm e size : Nat} {ra rm : Int} {ks : List Kb} {sa se : Dk.DS} {lv : Value} {ms : List Md} (h : Pq X w W c d mm e size ra ks sa rm lv ms se) (k : Nat) (hk : X k) : k < W.heap.size := by
  obtain ⟨Fa, Fm, Fe, h⟩ := h
  exact (h.xl k hk).2
theorem blkV_len (v : Int) : (blkV v).length = 1024 := blkV_length v
/-- A row of ints that is owned, none too. -/
theorem owns_lat {w : World} {base : Nat} {v : Value} {n : Nat} {xs : List Int} (h : w.ownsRow base 3 1 v n (Iy xs)) : ∃ ao c, v = .slice ao n c ∧ LAt w ao n xs := by
  rcases Nat.eq_zero_or_pos n with h0 | h0
  · subst h0
    have hl : xs = [] := by
      have := h.1
      simp [Iy] at this
      exact this
    subst hl
    rcases h.2 with ⟨hv, _⟩ | ⟨g, cap, cur, hv, _⟩
    · exact ⟨none, 0, hv, rfl, fun h => by omega⟩
    · exact ⟨_, cap, hv, rfl, fun h => by omega⟩
  · obtain ⟨g, c, hv, _, _, _, hl, _⟩ := owns_ints h h0
    exact ⟨_, c, hv, hl⟩
/-- What the model's list is ahead of its shrinking, where a block is written. -/
def fluM (ks : List Kb) (s : Dk.DS) (n : Int) : List Kb := match fndK ks n with
  | some x => if x.dirty = true then updK ks (x.by x.pins (!(Dk.wrS s x.num x.dat).1)) else ks
  | none => ks
theorem upd_self {ks : List Kb} {x : Kb} (hn : (ks.map (·.num)).Nodup) (hx : x ∈ ks) : updK ks x = ks := by
  unfold updK
  induction ks with
  | nil => rfl
  | cons y r ih =>
    rw [List.map_cons] at hn
    rw [List.map_cons]
    have hn2 := List.nodup_cons.1 hn
    rcases List.mem_cons.1 hx with rfl | hx
    · rw [if_pos rfl]
      congr 1
      refine (List.map_congr_left (fun z hz => ?_)).trans (List.map_id _)
      rw [if_neg]
      · rfl
      · intro h
        exact hn2.1 (h ▸ List.mem_map.2 ⟨z, hz, rfl⟩)
    · rw [if_neg, ih hn2.2 hx]
      intro h
      exact hn2.1 (h ▸ List.mem_map.2 ⟨x, hx, rfl⟩)
theorem flu_shk {size : Nat} {ks : List Kb} {s : Dk.DS} {n : Int} (hs : shk size ks = ks) (hn : (ks.map (·.num)).Nodup) : shk size (fluM ks s n) = fluL size ks s n := by
  unfold fluM fluL
  cases hf : fndK ks n with
  | none => exact hs
  | some x =>
    simp only
    by_cases hd : x.dirty = true
    · rw [if_pos hd, if_pos hd]
      cases hw : (Dk.wrS s x.num x.dat).1 with
      | true => rfl
      | false =>
        have : x.by x.pins (!false) = x := by
          obtain ⟨a, b, c, d⟩ := x
          simp only at hd
          subst hd
          rfl
        rw [this, upd_self hn (fnd_in hf).1, if_neg (by simp)]
        exact hs
    · rw [if_neg hd, if_neg hd]
      exact hs
theorem img_bat {W : World} {base n : Nat} {v : Value} {xs : List Int} (h : W.ownsRow base 5 1 v n (By xs)) : ∃ ao c, v = .slice ao n c ∧ BAt W ao n xs := by
  obtain ⟨ao, c, hv, hB, _⟩ := owns_BAt h
  exact ⟨ao, c, hv, hB⟩
end Go.Proofs.Ytmbhjheoomlggaa
