/-
  The reference's Add.
-/
import Derived.Test.YthmbhcmicebcpaaLayRg
import Derived.Test.YthmbhcmicebcpaaDpHeld
import Derived.Maps.AppendAt
import Derived.Laws.AppendOwnNone
namespace Go.Proofs.Ythmbhcmicebcpaa
open Go Go.Proofs Go.RowKit Go.Shelf
attribute [local go_sem] Oper.semAt_some
theorem wp_region_but {P : Program} {ops : Array Oper} {Q : Exit → Act → World → Prop} {id : Nat} {a : Act} {w : World} (L : Nat) (S : World → Prop) (hm : P.follows .mixedOrders = true) (hS : S w.drew)
    (h : S w.drew → Butt P .any ops Q S L ops.size (Array.replicate ops.size false) a w.drew) : (Code.region id ops true).wp P Q a w := wp_region_any hm (any_of_butt _ _ _ _ (h hS))
theorem exec_storeR {ev : Operand → Value} {oi : Oper} {p x : Operand} {a : Addr} {ao : Option Addr} {n c : Nat} {u : Value} {W : World} (ho : oi.op = .store 30 p x) (hp : ev p = .pointer (some a)) (hx : ev x = .slice ao n c) (hc : W.cell? a = some u) (hf : W.frozen? a = false) : (execOp ev oi).run Try.prog W = .ok .skip (W.setCell a (.slice ao n c)) := by
  unfold execOp
  simp only [ho, hp, hx]
  go_simp
theorem info34 : (Try.prog.info? 34).map (fun i => (i.zero, i.size, i.bytes)) = some (some (.agg #[.int .i64 0, .slice none 0 0, .bool false]), 3, 40) := by kernel_rfl
theorem info34p : ∃ i0, Try.prog.info? 34 = some i0 ∧ i0.zero = some (.agg #[.int .i64 0, .slice none 0 0, .bool false]) ∧ i0.size = 3 ∧ i0.bytes = 40 := by
  cases h : Try.prog.info? 34 with
  | none => have := info34; rw [h] at this; cases this
  | some i =>
    have h2 := info34
    rw [h] at h2
    simp at h2
    exact ⟨i, rfl, h2.1, h2.2.1, h2.2.2⟩
theorem exec_oneC {ev : Operand → Value} {oi : Oper} {x : Operand} {b : Int} {a1 : Option Addr} {m c1 : Nat} {W : World} (ho : oi.op = .buildSlice 30 1 #[(0, x)]) (hx : ev x = .agg #[.int .i64 b, .slice a1 m c1, .bool false]) : (execOp ev oi).run Try.prog W = .ok (.value (.slice (some ⟨W.heap.size, 0, none⟩) 1 1)) (W.alloc (.cells #[.int .i64 b, .slice a1 m c1, .bool false] 34)) := by
  obtain ⟨i0, hi, hz0, hz1, hz2⟩ := info34p
  unfold execOp
  rw [ho]
  simp only [hx, List.map_toArray, List.map_cons, List.map_nil]
  simp [Instr.buildSlice, run_underlying Try.underlying30, zeroValue, typeInfo, hi, hz0, hz1, newRow, Value.cells, Instr.fill, sizeOf]
  rw [show Array.range 3 = #[0, 1, 2] from by decide]
  simp
/-- append([]int(nil), xs...). -/
theorem appIs {W : World} {ao : Option Addr} {m cc : Nat} {xs : List Int} (h : LAt W ao m xs) (h0 : ao = none → m = 0 ∧ cc = 0) (hn : m ≤ 1000000) :
    ∃ v' W', (Builtin.append_ #[23, 23] 23 #[.slice none 0 0, .slice ao m cc]).run Try.prog W = .ok v' W' ∧ W'.ownsRow W.heap.size 3 1 v' m (Iy xs) ∧ Below W.heap.size W W' := by
  obtain ⟨i0, hi, hz0, hz1, hz2⟩ := info3p
  cases ao with
  | none =>
    obtain ⟨rfl, rfl⟩ := h0 rfl
    have hx : xs = [] := List.eq_nil_of_length_eq_zero h.1
    subst hx
    exact ⟨.slice none 0 0, W, run_append_owned_none (P := Try.prog) (w := W) W.heap.size 23 23 3 i0 1 Try.underlying23 hi _ 0 [] (World.ownsRow_nil _ _ _ _), World.ownsRow_nil _ _ _ _, Below.refl _ _⟩
  | some a =>
    obtain ⟨v3, W3, hr, hown3, hg3, _⟩ := run_append_own (P := Try.prog) W W.heap.size 23 23 3 i0 (.int .i64 0) 1 8 Try.underlying23 hi hz0 hz1 hz2 rfl (by decide) (.slice none 0 0) 0 [] (World.ownsRow_nil _ _ _ _) a m cc (Iy xs) (by have := h.1; simp [Iy]; exact this) (fun j u hj => by
        have hj2 : j < xs.length := by
          have := (List.getElem?_eq_some_iff.1 hj).1
          simp only [Iy, List.length_map] at this
          exact this
        rw [Iy_get xs j hj2] at hj
        cases hj
        obtain ⟨a', e, _, hc⟩ := h.2 (by rw [← h.1]; omega)
        cases e
        exact hc j (by rw [← h.1]; exact hj2)) (Iy_one _) (by unfold maxLen; omega) (by omega) (Nat.le_refl _)
    rw [List.nil_append, Nat.zero_add] at hown3
    exact ⟨v3, W3, hr, hown3, ((Only.refl (fun _ => False) W).grown hg3 (fun k hk => by cases hk)).below (Nat.le_refl _) (fun _ q => q.elim)⟩
section
variable {F : Nat → Prop} {w : World} {r : Nat} {v : Value} {G : Gp}
/-- A change is appended to the row. -/
theorem RgAt.push {W1 : World} (h : RgAt F w r v G) (hF : ∀ k, F k → k < w.heap.size) (hn : G.n ≤ 1000000) (b : Int) {a1 : Option Addr} {m c1 : Nat} {xs : List Int} (hB : Below w.heap.size w W1) (h1 : W1.ownsRow w.heap.size 3 1 (.slice a1 m c1) m (Iy xs)) (hm : m ≤ 1000000) :
    ∃ a3 c3 W3, (Builtin.append_ #[30, 30] 30 #[v, .slice (some ⟨W1.heap.size, 0, none⟩) 1 1]).run Try.prog (W1.alloc (.cells #[.int .i64 b, .slice a1 m c1, .bool false] 34)) = .ok (.slice a3 (G.n + 1) c3) W3 ∧ W3.cell? ⟨r, 0, none⟩ = some v ∧ W3.frozen? ⟨r, 0, none⟩ = false ∧ (W1.alloc (.cells #[.int .i64 b, .slice a1 m c1, .bool false] 34)).cell? ⟨r, 0, none⟩ = some v ∧ Hid (RgAt (Grown F w) (W3.setCell ⟨r, 0, none⟩ (.slice a3 (G.n + 1) c3)) r (.slice a3 (G.n + 1) c3) (G.add b xs) ∧ Only F w (W3.setCell ⟨r, 0, none⟩ (.slice a3 (G.n + 1) c3))) := by
  obtain ⟨i0, hi, hz0, hz1, hz2⟩ := info34p
  obtain ⟨L, l1, l2, l3⟩ := h.row
  obtain ⟨W2, hW2⟩ : ∃ W2, W2 = W1.alloc (.cells #[.int .i64 b, .slice a1 m c1, .bool false] 34) := ⟨_, rfl⟩
  have hnew : W2.heap[W1.heap.size]? = some (.cells #[.int .i64 b, .slice a1 m c1, .bool false] 34 (0, 0)) := by rw [hW2]; exact blk_new W1 _
  have hB2 : Below W1.heap.size W1 W2 := by rw [hW2]; exact (Below.refl _ W1).alloc (Nat.le_refl _) _
  have hs2 : W2.heap.size = W1.heap.size + 1 := by rw [hW2]; simp
  rw [← hW2]
  have hws := hB.size
  have hBw2 : Below w.heap.size w W2 := hB.trans (hB2.mono hws)
  have hrl := hF r h.fr
  have hvl : ∀ k, v.ownBlock = some k → k < w.heap.size := fun k q => hF k (h.fv k q).1
  obtain ⟨v3, W3, hr, ho, hg, _, hv⟩ := run_append_own_at (P := Try.prog) W2 0 30 30 34 i0 (.agg #[.int .i64 0, .slice none 0 0, .bool false]) 3 40 Try.underlying30 hi hz0 hz1 hz2 rfl (by decide) v L.length (Ry L) (own_keep l2 (fun k q => hBw2.block k (hvl k q))) ⟨W1.heap.size, 0, none⟩ 1 1 (rcC ⟨b, .slice a1 m c1, false⟩) rfl (fun j u hj => by
    match j, hj with
    | 0, hj => cases hj; rw [add_at, blk_cell hnew]; rfl
    | 1, hj => cases hj; rw [add_at, blk_cell hnew]; rfl
    | 2, hj => cases hj; rw [add_at, blk_cell hnew]; rfl) (fun u hu => by
    simp only [rcC, List.mem_cons, List.not_mem_nil, or_false] at hu
    rcases hu with rfl | rfl | rfl <;> rfl) (by unfold maxLen; omega) (by omega) (Nat.zero_le _)
  have e : Ry L ++ rcC ⟨b, .slice a1 m c1, false⟩ = Ry (L ++ [⟨b, .slice a1 m c1, false⟩]) := by rw [Ry_app]; simp [Ry]
  rw [e] at ho
  obtain ⟨a3, c3, rfl⟩ : ∃ a3 c3, v3 = .slice a3 (G.n + 1) c3 := by
    rcases ho.2 with ⟨rfl, q⟩ | ⟨g, cap, cur, rfl, _⟩
    · omega
    · rw [l1]; exact ⟨_, cap, rfl⟩
  have hO3 : Only (fun k => v.ownBlock = some k) W2 W3 := (Only.refl _ W2).grown hg (fun k hk => .inl hk)
  have hs3 := hO3.size
  have htop3 : W3.heap[r]? = some (.cells #[v] 32 (0, 0)) := (hO3.block r (by omega) (fun q => (h.fv r q).2 rfl)).trans ((hBw2.block r hrl).trans h.top)
  have hOw3 : Only F w W3 := (Only.of_new F (hBw2)).trans hO3 (fun k q => .inl (h.fv k q).1)
  have hv3 : ∀ k, (Value.slice a3 (G.n + 1) c3).ownBlock = some k → (v.ownBlock = some k ∨ k = W2.heap.size) := fun k q => by
    rcases hv with hv | hv
    · exact .inl (hv.symm.trans q)
    · rw [q] at hv; exact .inr (Option.some.inj hv)
  have hv3r : ∀ k, (Value.slice a3 (G.n + 1) c3).ownBlock = some k → k ≠ r := fun k q => by
    rcases hv3 k q with q | q
    · exact (h.fv k q).2
    · omega
  obtain ⟨W4, hW4⟩ : ∃ W4, W4 = W3.setCell ⟨r, 0, none⟩ (.slice a3 (G.n + 1) c3) := ⟨_, rfl⟩
  have hO4 : Only (fun k => k = r) W3 W4 := by rw [hW4]; exact (Only.refl (fun k => k = r) W3).setCell (p := ⟨r, 0, none⟩) (.inl rfl) _
  have hs4 := hO4.size
  refine ⟨a3, c3, W3, hr, by rw [blk_cell htop3]; rfl, blk_free htop3 0, ?_, Hid.mk ⟨?_, ?_⟩⟩
  · rw [blk_cell ((hBw2.block r hrl).trans h.top)]; rfl
  · rw [← hW4]
    refine ⟨by rw [hW4, blk_set htop3]; rfl, .inl h.fr, fun k q => ⟨?_, hv3r k q⟩, L ++ [⟨b, .slice a1 m c1, false⟩], by rw [List.length_append, ← l1]; rfl, ?_, fun j hj => ?_⟩
    · rcases hv3 k q with q | q
      · exact .inl (h.fv k q).1
      · exact .inr (by rw [q]; omega)
    · rw [← l1] at ho
      rw [List.length_append, ← l1]
      exact own_keep ho (fun k q => hO4.block k (owns_lt ho q) (hv3r k q))
    · rw [List.length_append] at hj
      by_cases ej : j < L.length
      · have e1 : (L ++ [(⟨b, .slice a1 m c1, false⟩ : Rc)]).getD j Rc.zero = L.getD j Rc.zero := by rw [List.getD, List.getElem?_append_left ej]; rfl
        obtain ⟨q1, q2, ao, m', cc, q3, q4, q5, q6⟩ := l3 j ej
        have en : ¬ ((j : Nat) : Int) = (G.n : Int) := by omega
        rw [e1]
        refine ⟨(if_neg en).trans q1, (if_neg en).trans q2, ao, m', cc, q3, ?_, q5, fun a ea h0 => ?_⟩
        · have eo : (G.add b xs).on j = G.on j := if_neg en
          rw [eo]
          refine lat_keep q4 (fun a ea h0 => ?_) (by omega)
          obtain ⟨p1, p2, p3, p4⟩ := q6 a ea h0
          rw [hO4.block _ (by omega) p3, hO3.block _ (by omega) p4, hBw2.block _ p2]
        · obtain ⟨p1, p2, p3, p4⟩ := q6 a ea h0
          refine ⟨.inl p1, by omega, p3, fun q => ?_⟩
          rcases hv3 _ q with q | q
          · exact p4 q
          · omega
      · have ej : j = G.n := by simp at hj; omega
        have e1 : (L ++ [(⟨b, .slice a1 m c1, false⟩ : Rc)]).getD j Rc.zero = ⟨b, .slice a1 m c1, false⟩ := by rw [ej, l1, List.getD, List.getElem?_append_right (Nat.le_refl _)]; simp
        have en : ((j : Nat) : Int) = (G.n : Int) := by omega
        rw [e1]
        obtain ⟨ao, c, ev, hla⟩ := owns_lat h1
        cases ev
        have hnb : ∀ a, a1 = some a → w.heap.size ≤ a.block ∧ a.block < W1.heap.size := fun a ea => by
          have hob : (Value.slice a1 m c1).ownBlock = some a.block := by rw [ea]; rfl
          refine ⟨?_, owns_lt h1 hob⟩
          rcases h1.2 with ⟨q, _⟩ | ⟨g, cap, cur, q, hg', _⟩
          · rw [ea] at q; cases q
          · rw [ea] at q; cases q; exact hg'
        refine ⟨if_pos en, if_pos en, a1, m, c1, rfl, ?_, hm, fun a ea h0 => ?_⟩
        · have eo : (G.add b xs).on j = xs := if_pos en
          rw [eo]
          refine lat_keep hla (fun a ea h0 => ?_) (by omega)
          have := hnb a ea
          rw [hO4.block _ (by omega) (by omega), hO3.block _ (by omega) (fun q => by have := hvl _ q; omega), hB2.block _ this.2]
        · have := hnb a ea
          refine ⟨.inr this.1, by omega, by omega, fun q => ?_⟩
          rcases hv3 _ q with q | q
          · have := hvl _ q; omega
          · omega
  · rw [← hW4]
    exact hOw3.trans hO4 (fun k q => .inl (by rw [q]; exact h.fr))
end
end Go.Proofs.Ythmbhcmicebcpaa
namespace Go.Proofs.Ythmbhcmicebcpaa
open Go Go.Proofs Go.RowKit Go.Shelf
attribute [local go_sem] Oper.semAt_some
theorem any_take {xs : List Int} {f : Int → Bool} {k : Nat} (hk : k < xs.length) : (xs.take (k + 1)).any f = ((xs.take k).any f || f (xs.getD k 0)) := by
  rw [List.take_add_one, List.getElem?_eq_getElem hk, List.any_append]
  simp [List.getD, List.getElem?_eq_getElem hk]
theorem any_at {xs : List Int} {f : Int → Bool} {k : Nat} (hk : k < xs.length) (h : f (xs.getD k 0) = true) : xs.any f = true :=
  List.any_eq_true.2 ⟨xs.getD k 0, by rw [List.getD, List.getElem?_eq_getElem hk]; exact List.getElem_mem _, h⟩
section
variable {F : Nat → Prop} {w : World} {r : Nat} {v : Value} {G : Gp}
set_option maxRecDepth 100000 in
set_option maxHeartbeats 4000000 in
theorem radd_any (h : RgAt F w r v G) (hF : ∀ k, F k → k < w.heap.size) (hn : G.n ≤ 1000000) (b : Int) (ao : Option Addr) (m cc : Nat) (xs : List Int) (hx : LAt w ao m xs) (h0 : ao = none → m = 0 ∧ cc = 0) (hm : m ≤ 1000000) :
    Calls Try.prog 30 #[ptV r, .int .i64 b, .slice ao m cc] w fun e w' => (xs.any (noneB G.n) = true → e = .returned (.tuple #[.int .i64 0, .int .i64 1]) ∧ Below w.heap.size w w') ∧ (xs.any (noneB G.n) = false → e = .returned (.tuple #[.int .i64 (G.n : Nat), .int .i64 0]) ∧ ∃ v', Hid (RgAt (Grown F w) w' r v' (G.add b xs) ∧ Only F w w')) := by
  obtain ⟨ar, cap, rfl, _⟩ := h.slice
  have HF : Hid (∀ q, (w.drewN q).cell? ⟨r, 0, none⟩ = some (.slice ar G.n cap) ∧ LAt (w.drewN q) ao m xs) := Hid.mk (fun q => by
    have hB := below_drewN' w q w.heap.size (Nat.le_refl _)
    exact ⟨(h.below hB).cell, hx.next hB⟩)
  have HB : Hid (∀ q, Below w.heap.size w (w.drewN q)) := Hid.mk (fun q => below_drewN' w q w.heap.size (Nat.le_refl _))
  have HPU : Hid (∀ wr, (∃ q, wr = w.drewN q) → ∃ a1 c1 W1 a3 c3 W3, (Builtin.append_ #[23, 23] 23 #[.slice none 0 0, .slice ao m cc]).run Try.prog wr.drew = .ok (.slice a1 m c1) W1 ∧ W1.cell? ⟨r, 0, none⟩ = some (.slice ar G.n cap) ∧ (Builtin.append_ #[30, 30] 30 #[.slice ar G.n cap, .slice (some ⟨W1.heap.size, 0, none⟩) 1 1]).run Try.prog (W1.alloc (.cells #[.int .i64 b, .slice a1 m c1, .bool false] 34)) = .ok (.slice a3 (G.n + 1) c3) W3 ∧ W3.cell? ⟨r, 0, none⟩ = some (.slice ar G.n cap) ∧ W3.frozen? ⟨r, 0, none⟩ = false ∧ (W1.alloc (.cells #[.int .i64 b, .slice a1 m c1, .bool false] 34)).cell? ⟨r, 0, none⟩ = some (.slice ar G.n cap) ∧ Hid (RgAt (Grown F w) (W3.setCell ⟨r, 0, none⟩ (.slice a3 (G.n + 1) c3)) r (.slice a3 (G.n + 1) c3) (G.add b xs) ∧ Only F w (W3.setCell ⟨r, 0, none⟩ (.slice a3 (G.n + 1) c3)))) := Hid.mk (fun wr ⟨q, e⟩ => by
    subst e
    have hB : Below w.heap.size w (w.drewN q).drew := (below_drewN' w q w.heap.size (Nat.le_refl _)).trans (show Below w.heap.size (w.drewN q) (w.drewN q).drew from drew_below (w.drewN q))
    obtain ⟨v1, W1, r1, o1, b1⟩ := appIs (hx.next hB) h0 hm
    obtain ⟨a1, c1, rfl, _⟩ := owns_lat o1
    have hs : (w.drewN q).drew.heap.size = w.heap.size := rfl
    rw [hs] at o1 b1
    have hBW : Below w.heap.size w W1 := hB.trans b1
    obtain ⟨a3, c3, W3, p1, p2, p3, p4, p5⟩ := h.push hF hn b hBW o1 hm
    exact ⟨a1, c1, W1, a3, c3, W3, r1, (h.below hBW).cell, p1, p2, p3, p4, p5⟩)
  obtain ⟨n, hnn⟩ : ∃ n, n = G.n := ⟨_, rfl⟩
  rw [← hnn] at HF HPU hn ⊢
  have HL := Hid.mk hx.1
  have HM := Hid.mk hm
  have HN := Hid.mk hn
  have u5 : IntKind.i64.wrap (((n + 1 : Nat) : Int) - 1) = ((n : Nat) : Int) := by rw [IntKind.wrap_i64]; omega
  clear h hF hn hx h0 hm hnn
  go_enter Try.func30, Try.ntmps30
  go_wp2
  go_loopw [8] (fun kv wr => ∃ k : Nat, kv = .int .i64 k ∧ Hid ((∃ q, wr = w.drewN q) ∧ k ≤ m ∧ (xs.take k).any (noneB n) = false)) (fun kv _ => m - (Go.RowKit.intOf kv).toNat)
  case atStart => exact ⟨0, rfl, Hid.mk ⟨⟨0, rfl⟩, Nat.zero_le _, by simp⟩⟩
  case round =>
    obtain ⟨k, rfl, HK⟩ := hrel
    have HFW : Hid (wr.cell? ⟨r, 0, none⟩ = some (.slice ar n cap) ∧ LAt wr ao m xs ∧ (∀ z, Below w.heap.size w (wr.drewN z)) ∧ ∀ z, ∃ q, wr.drewN z = w.drewN q) := Hid.mk (by
      obtain ⟨⟨q, e⟩, _, _⟩ := HK.out
      rw [e]
      exact ⟨(HF.out q).1, (HF.out q).2, fun z => by rw [World.drewN_drewN]; exact HB.out _, fun z => ⟨_, World.drewN_drewN _ _ _⟩⟩)
    by_cases hkl : (k : Int) < (m : Int)
    · have v1 : IntKind.i64.wrap ((k : Int) + 1) = ((k + 1 : Nat) : Int) := by have := HM.out; rw [IntKind.wrap_i64]; omega
      have HKL : Hid (k < m ∧ k < xs.length) := Hid.mk (by have := HL.out; omega)
      obtain ⟨c0, hla, _, _⟩ := HFW.out
      obtain ⟨a, rfl, _, hca⟩ := hla.2 (by omega)
      have q1 := hca k HKL.out.1
      have HT := Hid.mk (any_take (f := noneB n) HKL.out.2)
      have HAT := Hid.mk (any_at (f := noneB n) HKL.out.2)
      generalize xs.getD k 0 = y at q1 HT HAT
      have HA := Hid.mk HK.out.2.2
      have k0 : (0 : Int) ≤ ((k : Nat) : Int) := by omega
      by_cases hy : y < 0
      · have hd : decide (y < 0) = true := decide_eq_true hy
        have HE : Hid (xs.any (noneB n) = true) := Hid.mk (HAT.out (by simp [noneB, hy]))
        clear hla hca HK HT HA HAT
        go_wp2
        go_quiet (fail)
        go_wp2
        refine bodyPost_ret (results_tmp2 rfl _ _ _) rfl ?_
        exact ⟨fun _ => ⟨rfl, HFW.out.2.2.1 _⟩, fun e => by rw [HE.out] at e; cases e⟩
      · have hd : decide (y < 0) = false := decide_eq_false hy
        by_cases hy2 : (n : Int) ≤ y
        · have hd2 : decide ((n : Int) ≤ y) = true := decide_eq_true hy2
          have HE : Hid (xs.any (noneB n) = true) := Hid.mk (HAT.out (by simp [noneB, hy2]))
          clear hla hca HK HT HA HAT
          go_wp2
          go_quiet (fail)
          go_wp2
          refine bodyPost_ret (results_tmp2 rfl _ _ _) rfl ?_
          exact ⟨fun _ => ⟨rfl, HFW.out.2.2.1 _⟩, fun e => by rw [HE.out] at e; cases e⟩
        · have hd2 : decide ((n : Int) ≤ y) = false := decide_eq_false hy2
          have HT2 : Hid ((xs.take (k + 1)).any (noneB n) = false) := Hid.mk (by rw [HT.out, HA.out]; simp [noneB]; omega)
          clear hla hca HK HT HA HAT
          go_wp2
          go_quiet (fail)
          go_wp2
          go_roundw
          case rel => exact ⟨k + 1, rfl, Hid.mk ⟨HFW.out.2.2.2 _, HKL.out.1, HT2.out⟩⟩
          case measure => (have := HKL.out.1; simp [Go.RowKit.intOf]; omega)
    · have HA : Hid (xs.any (noneB n) = false) := Hid.mk (by
        have := HK.out.2.2
        rw [List.take_of_length_le (by have := HL.out; omega)] at this
        exact this)
      obtain ⟨a1, c1, W1, a3, c3, W3, p1, p2, p3, p4, p5, p6, HP⟩ := HPU.out wr HK.out.1
      have HA1 := Hid.mk p1
      have HS1 := Hid.mk p2
      have HA3 := Hid.mk p3
      have HS3 := Hid.mk p4
      have HFZ := Hid.mk p5
      have HS2 := Hid.mk p6
      have hH : wr.drew.cell? ⟨r, 0, none⟩ = some (.slice ar n cap) := HFW.out.1
      clear p1 p2 p3 p4 p5 p6 HPU HK
      go_wp2
      refine wp_region_but 13 (fun W => W.cell? ⟨r, 0, none⟩ = some (.slice ar n cap)) (by kernel_rfl) hH (fun hH => ?_)
      change Butt Try.prog Region.Mode.any _ _ _ 13 14 _ _ _
      refine takeL 0 32 (.pointer (some ⟨r, 0, none⟩)) rfl (by kernel_rfl) (by kernel_rfl) (by kernel_rfl) (by kernel_rfl) (by kernel_rfl) (fun _ _ _ h => h) (by kernel_rfl) (fun w hw => by kernel_rfl) hH ?_
      simp only [List.setIfInBounds_toArray, List.set_cons_zero, List.set_cons_succ]
      refine takeL 1 33 (.pointer (some ⟨r, 0, none⟩)) rfl (by kernel_rfl) (by kernel_rfl) (by kernel_rfl) (by kernel_rfl) (by kernel_rfl) (fun _ _ _ h => h) (by kernel_rfl) (fun w hw => by kernel_rfl) hH ?_
      simp only [List.setIfInBounds_toArray, List.set_cons_zero, List.set_cons_succ]
      refine takeL 2 34 (.pointer (some ⟨r, 0, none⟩)) rfl (by kernel_rfl) (by kernel_rfl) (by kernel_rfl) (by kernel_rfl) (by kernel_rfl) (fun _ _ _ h => h) (by kernel_rfl) (fun w hw => by go_simp) hH ?_
      simp only [List.setIfInBounds_toArray, List.set_cons_zero, List.set_cons_succ]
      refine takeL 3 35 (.pointer (some ⟨r, 0, none⟩)) rfl (by kernel_rfl) (by kernel_rfl) (by kernel_rfl) (by kernel_rfl) (by kernel_rfl) (fun _ _ _ h => h) (by kernel_rfl) (fun w hw => by go_simp) hH ?_
      simp only [List.setIfInBounds_toArray, List.set_cons_zero, List.set_cons_succ]
      refine takeL 4 36 (.slice ar n cap) rfl (by kernel_rfl) (by kernel_rfl) (by kernel_rfl) (by kernel_rfl) (by kernel_rfl) (fun _ _ _ h => h) (by kernel_rfl) (fun w hw => by go_simp) hH ?_
      simp only [List.setIfInBounds_toArray, List.set_cons_zero, List.set_cons_succ]
      refine takeL 5 37 (.int .i64 b) rfl (by kernel_rfl) (by kernel_rfl) (by kernel_rfl) (by kernel_rfl) (by kernel_rfl) (fun _ _ _ h => h) (by kernel_rfl) (fun w hw => by kernel_rfl) hH ?_
      simp only [List.setIfInBounds_toArray, List.set_cons_zero, List.set_cons_succ]
      refine takeL 6 38 (.slice ao m cc) rfl (by kernel_rfl) (by kernel_rfl) (by kernel_rfl) (by kernel_rfl) (by kernel_rfl) (fun _ _ _ h => h) (by kernel_rfl) (fun w hw => by kernel_rfl) hH ?_
      simp only [List.setIfInBounds_toArray, List.set_cons_zero, List.set_cons_succ]
      refine stepL_run 7 39 (.slice a1 m c1) (W1) rfl (by kernel_rfl) (by kernel_rfl) (by kernel_rfl) (exec_append (s := .const (.slice none 0 0)) (x := .tmp 38) (by kernel_rfl) (by kernel_rfl) (by kernel_rfl) HA1.out) HS1.out ?_
      simp only [List.setIfInBounds_toArray, List.set_cons_zero, List.set_cons_succ]
      have hH := HS1.out
      refine takeL 8 40 (.agg #[.int .i64 b, .slice a1 m c1, .bool false]) rfl (by kernel_rfl) (by kernel_rfl) (by kernel_rfl) (by kernel_rfl) (by kernel_rfl) (fun _ _ _ h => h) (by kernel_rfl) (fun w hw => by go_simp) hH ?_
      simp only [List.setIfInBounds_toArray, List.set_cons_zero, List.set_cons_succ]
      refine stepL_run 9 41 (.slice (some ⟨W1.heap.size, 0, none⟩) 1 1) (W1.alloc (.cells #[.int .i64 b, .slice a1 m c1, .bool false] 34)) rfl (by kernel_rfl) (by kernel_rfl) (by kernel_rfl) (exec_oneC (x := .tmp 40) (by kernel_rfl) (by kernel_rfl)) HS2.out ?_
      simp only [List.setIfInBounds_toArray, List.set_cons_zero, List.set_cons_succ]
      refine stepL_run 10 42 (.slice a3 (n + 1) c3) (W3) rfl (by kernel_rfl) (by kernel_rfl) (by kernel_rfl) (exec_append (s := .tmp 36) (x := .tmp 41) (by kernel_rfl) (by kernel_rfl) (by kernel_rfl) HA3.out) HS3.out ?_
      simp only [List.setIfInBounds_toArray, List.set_cons_zero, List.set_cons_succ]
      refine stepL_run 11 43 (.pointer (some ⟨r, 0, none⟩)) (W3) rfl (by kernel_rfl) (by kernel_rfl) (by kernel_rfl) (by go_simp) HS3.out ?_
      simp only [List.setIfInBounds_toArray, List.set_cons_zero, List.set_cons_succ]
      refine stepL_run 12 44 (.pointer (some ⟨r, 0, none⟩)) (W3) rfl (by kernel_rfl) (by kernel_rfl) (by kernel_rfl) (by go_simp) HS3.out ?_
      simp only [List.setIfInBounds_toArray, List.set_cons_zero, List.set_cons_succ]
      refine lastL (W3.setCell ⟨r, 0, none⟩ (.slice a3 (n + 1) c3)) rfl (by kernel_rfl) (by kernel_rfl) (by kernel_rfl) (exec_storeR (p := .tmp 44) (x := .tmp 42) (by kernel_rfl) (by kernel_rfl) (by kernel_rfl) HS3.out HFZ.out) (by kernel_rfl) ?_
      obtain ⟨W4, hW4⟩ : ∃ W4, W4 = W3.setCell ⟨r, 0, none⟩ (.slice a3 (n + 1) c3) := ⟨_, rfl⟩
      have HC4 : Hid (W4.cell? ⟨r, 0, none⟩ = some (.slice a3 (n + 1) c3)) := Hid.mk (by rw [hW4]; exact HP.out.1.cell)
      rw [← hW4] at HP ⊢
      have c4 := HC4.out
      clear hW4 hH HC4
      have u6 : wrap64 ((n : Nat) : Int) = ((n : Nat) : Int) := by have := HN.out; unfold wrap64; omega
      go_wp2
      refine bodyPost_ret (results_tmp2 rfl _ _ _) rfl ?_
      exact ⟨fun e => (by rw [HA.out] at e; cases e), fun _ => ⟨congrArg (fun z : Int => Ending.returned (.tuple #[.int .i64 z, .int .i64 0])) u6, _, HP⟩⟩
end
end Go.Proofs.Ythmbhcmicebcpaa
