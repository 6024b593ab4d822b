/-
  walk.copied: its walk.
-/
import Derived.Test.YtbahbhaoimabdaaWkCopy
namespace Go.Proofs.Ytbahbhaoimabdaa
open Go Go.Proofs Go.RowKit Go.Shelf

theorem exec_stE {ev : Operand → Value} {oi : Oper} {p x : Operand} {a : Addr} {ao : Option Addr} {n c : Nat} {u : Value} {W : World} (ho : oi.op = .store 37 p x) (hp : ev p = .pointer (some a)) (hx : ev x = .slice ao n c) (hc : W.cell? a = some u) (hf : W.frozen? a = false) : (execOp ev oi).run Try.prog W = .ok .skip (W.setCell a (.slice ao n c)) := by
  unfold execOp
  simp only [ho, hp, hx]
  go_simp
theorem exec_stP {ev : Operand → Value} {oi : Oper} {p x : Operand} {a : Addr} {ao : Option Addr} {n c : Nat} {u : Value} {W : World} (ho : oi.op = .store 36 p x) (hp : ev p = .pointer (some a)) (hx : ev x = .slice ao n c) (hc : W.cell? a = some u) (hf : W.frozen? a = false) : (execOp ev oi).run Try.prog W = .ok .skip (W.setCell a (.slice ao n c)) := by
  unfold execOp
  simp only [ho, hp, hx]
  go_simp
theorem exec_stB {ev : Operand → Value} {oi : Oper} {p x : Operand} {a : Addr} {ao : Option Addr} {n c : Nat} {u : Value} {W : World} (ho : oi.op = .store 42 p x) (hp : ev p = .pointer (some a)) (hx : ev x = .slice ao n c) (hc : W.cell? a = some u) (hf : W.frozen? a = false) : (execOp ev oi).run Try.prog W = .ok .skip (W.setCell a (.slice ao n c)) := by
  unfold execOp
  simp only [ho, hp, hx]
  go_simp
/-- The j-th node is being copied: its rows are its own, and the bytes of its first q blocks. -/
structure CpM (w0 : World) (m : Nat) (Nd : Nat → NoV) (v : Value) (L : List NoV) (j q : Nat) (W : World) : Prop where
  row : W.ownsRow w0.heap.size 39 6 v m (Ny L)
  len : L.length = m
  own : ∀ i, i < j → OwN W w0.heap.size (L.getD i noZ).bn (L.getD i noZ)
  cur : OwN W w0.heap.size q (L.getD j noZ)
  old : ∀ k, q ≤ k → k < (Nd j).bn → (L.getD j noZ).P k = (Nd j).P k
  rest : ∀ i, j < i → i < m → L.getD i noZ = Nd i
  val : ∀ i, i < m → SameV (L.getD i noZ) (Nd i)
  apart : ∀ a b, a ≤ j → b ≤ j → a ≠ b → ∀ g, (slV (L.getD a noZ)).ownBlock = some g → (slV (L.getD b noZ)).ownBlock ≠ some g
  apartB : ∀ a b, a ≤ j → b ≤ j → a ≠ b → ∀ g, (blV (L.getD a noZ)).ownBlock = some g → (blV (L.getD b noZ)).ownBlock ≠ some g
  below : Below w0.heap.size w0 W
theorem Qy_get (n : Nat) (P : Nat → PaV) (k : Nat) (hk : k < n) : (Qy n P)[k * 2]? = some (.int .i64 (P k).at') ∧ (Qy n P)[k * 2 + 1]? = some (.slice (P k).ao (P k).m (P k).cc) := flat2_get n k hk
section
variable {w0 : World} {m : Nat} {Nd : Nat → NoV} {v : Value} {L : List NoV} {j : Nat} {W : World} {g : Nat}
theorem CpM.done {q : Nat} (h : CpM w0 m Nd v L j q W) (hj : j < m) (hq : q = (Nd j).bn) : CpI w0 m Nd v L (j + 1) W := by
  refine ⟨h.row, h.len, fun i hi => ?_, fun i h1 h2 => h.rest i (by omega) h2, h.val, fun a b h1 h2 => h.apart a b (by omega) (by omega), fun a b h1 h2 => h.apartB a b (by omega) (by omega), h.below⟩
  by_cases e : i = j
  · subst e
    rw [(h.val i hj).bn, ← hq]
    exact h.cur
  · exact h.own i (by omega)
theorem CpM.blw {q : Nat} {W' : World} (h : CpM w0 m Nd v L j q W) (hB : Below W.heap.size W W') : CpM w0 m Nd v L j q W' :=
  ⟨owns_at h.row (fun g e => hB.block g (owns_kind h.row g e).2.1), h.len, fun i hi => (h.own i hi).blw hB, h.cur.blw hB, h.old, h.rest, h.val, h.apart, h.apartB, h.below.trans (hB.mono h.below.size)⟩
theorem CpI.start (h : CpI w0 m Nd v L j W) (hg : v.ownBlock = some g) (hj : j < m) {so bo : Option Addr} {sc bc : Nat} {W2 W3 : World} (hB2 : Below W.heap.size W W2) (h2 : W2.ownsRow W.heap.size 41 2 (.slice so (Nd j).sn sc) (Nd j).sn (Ey (Nd j).sn (Nd j).E)) (hB3 : Below W2.heap.size W2 W3) (h3 : W3.ownsRow W2.heap.size 44 2 (.slice bo (Nd j).bn bc) (Nd j).bn (Qy (Nd j).bn (Nd j).P)) :
    ∃ L', CpM w0 m Nd v L' j 0 ((W3.setCell ⟨g, j * 6 + 5, none⟩ (.slice so (Nd j).sn sc)).setCell ⟨g, j * 6 + 4, none⟩ (.slice bo (Nd j).bn bc)) := by
  have hA := (h.blw hB2).blw hB3
  obtain ⟨x5, hx5⟩ : ∃ x5 : NoV, x5 = ⟨(Nd j).ino, (Nd j).kind, (Nd j).links, (Nd j).size, (Nd j).bo, (Nd j).bn, (Nd j).bc, (Nd j).P, so, (Nd j).sn, sc, (Nd j).E⟩ := ⟨_, rfl⟩
  obtain ⟨x, hx⟩ : ∃ x : NoV, x = ⟨(Nd j).ino, (Nd j).kind, (Nd j).links, (Nd j).size, bo, (Nd j).bn, bc, (Nd j).P, so, (Nd j).sn, sc, (Nd j).E⟩ := ⟨_, rfl⟩
  have hjl : j < L.length := by rw [h.len]; exact hj
  have r5 := hA.turn hg hj 5 (by omega) (.slice so (Nd j).sn sc) x5 (by rw [h.rest j (Nat.le_refl _) hj, hx5]; rfl)
  have r4 := owns_setG r5 hg (j * 6 + 4) (.slice bo (Nd j).bn bc)
  rw [Ny_set (L.set j x5) j 4 (by simpa using hjl) (by omega) (.slice bo (Nd j).bn bc) x (by rw [getD_set hjl, if_pos rfl, hx, hx5]; rfl)] at r4
  have hLL : (L.set j x5).set j x = L.set j x := by simp
  rw [hLL] at r4
  have hgk := (owns_kind hA.row g hg).2.2
  have hkeep : ∀ b, b ≠ g → ((W3.setCell ⟨g, j * 6 + 5, none⟩ (.slice so (Nd j).sn sc)).setCell ⟨g, j * 6 + 4, none⟩ (.slice bo (Nd j).bn bc)).heap[b]? = W3.heap[b]? := fun b hb => (Below.heap_setCell _ _ _ _ hb).trans (Below.heap_setCell _ _ _ _ hb)
  have hk2 : ∀ (b : Nat) (cs : Array Value) (t : TypeId), w0.heap.size ≤ b → W3.heap[b]? = some (.cells cs t (0, 0)) → t ≠ 39 → ((W3.setCell ⟨g, j * 6 + 5, none⟩ (.slice so (Nd j).sn sc)).setCell ⟨g, j * 6 + 4, none⟩ (.slice bo (Nd j).bn bc)).heap[b]? = W3.heap[b]? := fun b cs t _ hb ht => hkeep b (fun e => by
    obtain ⟨cs', hc⟩ := hgk
    rw [e, hc] at hb
    cases hb
    exact ht rfl)
  have hW0 := h.below.size
  have e0 : (L.set j x).getD j noZ = x := by rw [getD_set hjl, if_pos rfl]
  have e1 : ∀ i, i ≠ j → (L.set j x).getD i noZ = L.getD i noZ := fun i hi => by rw [getD_set hjl, if_neg hi]
  refine ⟨L.set j x, r4, by rw [List.length_set]; exact h.len, fun i hi => ?_, ?_, fun k _ _ => by rw [e0, hx], fun i h1 h2 => by rw [e1 i (by omega)]; exact h.rest i (by omega) h2, fun i hi => ?_, fun a b ha hb hab gg hga => ?_, fun a b ha hb hab gg hga => ?_, ?_⟩
  · rw [e1 i (by omega)]
    exact (hA.own i hi).kept hk2
  · rw [e0, hx]
    have h2' := owns_at h2 (w' := W3) (fun b e => hB3.block b (owns_kind h2 b e).2.1)
    refine OwN.kept (W := W3) ⟨owns_base h2' hW0, owns_base h3 (by have := hB2.size; omega), fun k hk => absurd hk (Nat.not_lt_zero k)⟩ hk2
  · by_cases e : i = j
    · subst e
      rw [e0, hx]
      exact ⟨rfl, rfl, rfl, rfl, rfl, rfl, fun _ _ => rfl, fun _ _ => ⟨rfl, rfl, rfl⟩⟩
    · rw [e1 i e]
      exact h.val i hi
  · by_cases ea : a = j
    · subst ea
      rw [e0, hx] at hga
      rw [e1 b (by omega)]
      intro hgb
      have q1 := (owns_kind h2 gg hga).1
      have q2 := (owns_kind (h.own b (by omega)).slots gg hgb).2.1
      omega
    · rw [e1 a ea] at hga
      by_cases eb : b = j
      · subst eb
        rw [e0, hx]
        intro hgb
        have q1 := (owns_kind h2 gg hgb).1
        have q2 := (owns_kind (h.own a (by omega)).slots gg hga).2.1
        omega
      · rw [e1 b eb]
        exact h.apart a b (by omega) (by omega) hab gg hga
  · by_cases ea : a = j
    · subst ea
      rw [e0, hx] at hga
      rw [e1 b (by omega)]
      intro hgb
      have q1 := (owns_kind h3 gg hga).1
      have q2 := (owns_kind (h.own b (by omega)).parts gg hgb).2.1
      have := hB2.size
      omega
    · rw [e1 a ea] at hga
      by_cases eb : b = j
      · subst eb
        rw [e0, hx]
        intro hgb
        have q1 := (owns_kind h3 gg hgb).1
        have q2 := (owns_kind (h.own a (by omega)).parts gg hga).2.1
        have := hB2.size
        omega
      · rw [e1 b eb]
        exact h.apartB a b (by omega) (by omega) hab gg hga
  · have hgb := (owns_kind hA.row g hg).1
    exact (hA.below.setCell (p := ⟨g, j * 6 + 5, none⟩) hgb _).setCell (p := ⟨g, j * 6 + 4, none⟩) hgb _
theorem Ny_same (L : List NoV) (j : Nat) (x : NoV) (hx : noC x = noC (L.getD j noZ)) : Ny (L.set j x) = Ny L := by
  induction L generalizing j with
  | nil => rfl
  | cons y L ih =>
    cases j with
    | zero =>
      rw [List.set_cons_zero]
      have e1 : Ny (x :: L) = noC x ++ Ny L := rfl
      have e2 : Ny (y :: L) = noC y ++ Ny L := rfl
      rw [e1, e2, hx]
      rfl
    | succ j =>
      rw [List.set_cons_succ]
      have e1 : Ny (y :: L.set j x) = noC y ++ Ny (L.set j x) := rfl
      have e2 : Ny (y :: L) = noC y ++ Ny L := rfl
      rw [e1, e2, ih j (by simpa using hx)]
theorem CpM.data {q : Nat} (h : CpM w0 m Nd v L j q W) (hj : j < m) (hq : q < (Nd j).bn) {pb : Nat} (hpb : (blV (L.getD j noZ)).ownBlock = some pb) {dd : Option Addr} {dc : Nat} {W2 : World} (hB2 : Below W.heap.size W W2) (h2 : W2.ownsRow W.heap.size 5 1 (.slice dd ((Nd j).P q).m dc) ((Nd j).P q).m (By ((Nd j).P q).xs)) :
    ∃ L', CpM w0 m Nd v L' j (q + 1) (W2.setCell ⟨pb, q * 2 + 1, none⟩ (.slice dd ((Nd j).P q).m dc)) ∧ blV (L'.getD j noZ) = blV (L.getD j noZ) := by
  have hA := h.blw hB2
  have hbn := (h.val j hj).bn
  have hPq := h.old q (Nat.le_refl _) hq
  have hjl : j < L.length := by rw [h.len]; exact hj
  obtain ⟨x, hx⟩ : ∃ x, x = L.getD j noZ := ⟨_, rfl⟩
  rw [← hx] at hpb hbn hPq
  obtain ⟨P', hP'⟩ : ∃ P' : Nat → PaV, P' = fun k => if k = q then ⟨((Nd j).P q).at', dd, ((Nd j).P q).m, dc, ((Nd j).P q).xs⟩ else x.P k := ⟨_, rfl⟩
  have p1 : P' q = ⟨((Nd j).P q).at', dd, ((Nd j).P q).m, dc, ((Nd j).P q).xs⟩ := by rw [hP']; simp
  have p2 : ∀ k, k ≠ q → P' k = x.P k := fun k hk => by rw [hP']; simp [hk]
  obtain ⟨y, hy⟩ : ∃ y : NoV, y = ⟨x.ino, x.kind, x.links, x.size, x.bo, x.bn, x.bc, P', x.so, x.sn, x.sc, x.E⟩ := ⟨_, rfl⟩
  have hcur := hA.cur
  rw [← hx] at hcur
  have hparts := owns_setG hcur.parts hpb (q * 2 + 1) (.slice dd ((Nd j).P q).m dc)
  have hQ : (Qy x.bn x.P).set (q * 2 + 1) (.slice dd ((Nd j).P q).m dc) = Qy y.bn y.P := by
    rw [hy]
    refine flat2_ext (by rw [List.length_set]; exact flat2_length _) (fun k hk => ?_)
    by_cases e : k = q
    · subst e
      rw [List.getElem?_set_ne (by omega), (Qy_get x.bn x.P k hk).1, List.getElem?_set_self (by rw [Qy, flat2_length]; omega)]
      dsimp only
      rw [p1, hPq]
      exact ⟨rfl, rfl⟩
    · rw [List.getElem?_set_ne (by omega), List.getElem?_set_ne (by omega), (Qy_get x.bn x.P k hk).1, (Qy_get x.bn x.P k hk).2]
      dsimp only
      rw [p2 k e]
      exact ⟨rfl, rfl⟩
  rw [hQ] at hparts
  have hkp := owns_kind hcur.parts pb hpb
  have hkeep : ∀ b, b ≠ pb → (W2.setCell ⟨pb, q * 2 + 1, none⟩ (.slice dd ((Nd j).P q).m dc)).heap[b]? = W2.heap[b]? := fun b hb => Below.heap_setCell _ _ _ _ hb
  have hty : ∀ (b : Nat) (cs : Array Value) (t : TypeId), W2.heap[b]? = some (.cells cs t (0, 0)) → t ≠ 44 → (W2.setCell ⟨pb, q * 2 + 1, none⟩ (.slice dd ((Nd j).P q).m dc)).heap[b]? = W2.heap[b]? := fun b cs t hb ht => hkeep b (fun e => by
    obtain ⟨cs', hc⟩ := hkp.2.2
    rw [e, hc] at hb
    cases hb
    exact ht rfl)
  have e0 : (L.set j y).getD j noZ = y := by rw [getD_set hjl, if_pos rfl]
  have e1 : ∀ i, i ≠ j → (L.set j y).getD i noZ = L.getD i noZ := fun i hi => by rw [getD_set hjl, if_neg hi]
  have hsl : slV y = slV x := by rw [hy]; rfl
  have hbl : blV y = blV x := by rw [hy]; rfl
  have hW0 := h.below.size
  have hslot : ∀ i, (slV ((L.set j y).getD i noZ)) = slV (L.getD i noZ) := fun i => by
    by_cases e : i = j
    · subst e; rw [e0, hsl, hx]
    · rw [e1 i e]
  have hblk : ∀ i, (blV ((L.set j y).getD i noZ)) = blV (L.getD i noZ) := fun i => by
    by_cases e : i = j
    · subst e; rw [e0, hbl, hx]
    · rw [e1 i e]
  refine ⟨L.set j y, ⟨?_, by rw [List.length_set]; exact h.len, fun i hi => ?_, ?_, fun k h1 h2' => ?_, fun i h1 h2' => by rw [e1 i (by omega)]; exact h.rest i h1 h2', fun i hi => ?_, fun a b ha hb hab gg hga => ?_, fun a b ha hb hab gg hga => ?_, ?_⟩, by rw [e0, hbl, hx]⟩
  · rw [Ny_same L j y (by rw [hy, hx]; rfl)]
    exact owns_at hA.row (fun b e => by
      obtain ⟨-, -, cs, hc⟩ := owns_kind hA.row b e
      exact hty b cs _ hc (by decide))
  · rw [e1 i (by omega)]
    have ho := hA.own i hi
    refine ⟨owns_at ho.slots (fun b e => ?_), owns_at ho.parts (fun b e => hkeep b (fun q' => ?_)), fun k hk => owns_at (ho.data k hk) (fun b e => ?_)⟩
    · obtain ⟨-, -, cs, hc⟩ := owns_kind ho.slots b e
      exact hty b cs _ hc (by decide)
    · rw [q'] at e
      exact h.apartB i j (by omega) (Nat.le_refl _) (by omega) pb e (by rw [← hx]; exact hpb)
    · obtain ⟨-, -, cs, hc⟩ := owns_kind (ho.data k hk) b e
      exact hty b cs _ hc (by decide)
  · rw [e0]
    refine ⟨?_, ?_, fun k hk => ?_⟩
    · rw [hsl, hy]
      exact owns_at hcur.slots (fun b e => by
        obtain ⟨-, -, cs, hc⟩ := owns_kind hcur.slots b e
        exact hty b cs _ hc (by decide))
    · rw [hbl]
      rw [hy] at hparts ⊢
      exact hparts
    · rw [hy]
      dsimp only
      by_cases e : k = q
      · subst e
        rw [p1]
        exact owns_base (owns_at h2 (fun b e => by
          obtain ⟨-, -, cs, hc⟩ := owns_kind h2 b e
          exact hty b cs _ hc (by decide))) hW0
      · rw [p2 k e]
        have hd := hcur.data k (by omega)
        exact owns_at hd (fun b e => by
          obtain ⟨-, -, cs, hc⟩ := owns_kind hd b e
          exact hty b cs _ hc (by decide))
  · rw [e0, hy]
    dsimp only
    rw [p2 k (by omega)]
    have := h.old k (by omega) h2'
    rw [← hx] at this
    exact this
  · by_cases e : i = j
    · subst e
      rw [e0, hy]
      have hv := h.val i hj
      rw [← hx] at hv
      refine ⟨hv.ino, hv.kind, hv.links, hv.size, hv.sn, hv.bn, hv.E, fun k hk => ?_⟩
      dsimp only
      by_cases e : k = q
      · subst e; rw [p1]; exact ⟨rfl, rfl, rfl⟩
      · rw [p2 k e]; exact hv.P k hk
    · rw [e1 i e]
      exact h.val i hi
  · rw [hslot a] at hga
    rw [hslot b]
    exact h.apart a b ha hb hab gg hga
  · rw [hblk a] at hga
    rw [hblk b]
    exact h.apartB a b ha hb hab gg hga
  · exact hA.below.setCell (p := ⟨pb, q * 2 + 1, none⟩) hkp.1 _
end
set_option maxRecDepth 100000 in
set_option maxHeartbeats 4000000 in
theorem copied_any (w0 : World) (ao : Option Addr) (m cc : Nat) (Nd : Nat → NoV) (hN : NoAt w0 ao m Nd) (hm : m ≤ 16777216) (hs : ∀ i, i < m → (Nd i).sn ≤ 16777216 ∧ (Nd i).bn ≤ 16777216 ∧ ∀ k, k < (Nd i).bn → ((Nd i).P k).m ≤ 16777216) : Calls Try.prog 28 #[.slice ao m cc] w0 fun e w' => ∃ v L, e = .returned v ∧ CpI w0 m Nd v L m w' := by
  have HN := Hid.mk hN
  have HM := Hid.mk hm
  have HS := Hid.mk hs
  have HCN := Hid.mk (clonN_all w0 ao m cc Nd hN hm)
  clear hN hm hs
  go_enter Try.func28, Try.ntmps28
  go_upto_region 2 with (go_at_call 44; refine HCN.out.mono ?_; rintro e w1 ⟨v, rfl, h1, hB1⟩)
  have hget : ∀ i, i < m → ((List.range m).map Nd).getD i noZ = Nd i := fun i hi => by
    rw [List.getD, List.getElem?_map, List.getElem?_range hi]; rfl
  have HI0 : Hid (CpI w0 m Nd v ((List.range m).map Nd) 0 w1) := Hid.mk ⟨h1, by simp, fun i hi => absurd hi (Nat.not_lt_zero i), fun i _ hi => hget i hi, fun i hi => by rw [hget i hi]; exact SameV.refl _, fun a b ha => absurd ha (Nat.not_lt_zero a), fun a b ha => absurd ha (Nat.not_lt_zero a), hB1⟩
  obtain ⟨va, vc, rfl, hvn, hva⟩ := owns_val h1
  have HVA := Hid.mk (And.intro hvn hva)
  clear h1 hB1 hget HCN hvn hva
  go_wp2
  go_loopw [12] (fun iv wr => ∃ (j : Nat) (L : List NoV), j ≤ m ∧ iv = .int .i64 (j : Int) ∧ Hid (CpI w0 m Nd (.slice va m vc) L j wr)) (fun iv _ => ((m : Int) - Go.RowKit.intOf iv).toNat)
  case atStart => exact ⟨0, _, by omega, rfl, HI0⟩
  case round =>
    obtain ⟨j, L, hj, rfl, HK⟩ := hrel
    by_cases hlt : j < m
    · obtain ⟨g, c', e, hbg, hgl, hgo, -⟩ := owns_some HK.out.row (by omega)
      cases e
      have hcell := fun i (hi : i < 6) => (owns_cellG HK.out.row hgo (j * 6 + i) (by omega)).1.trans (Ny_get L j i (by rw [HK.out.len]; exact hlt) hi)
      have hLj := HK.out.rest j (Nat.le_refl _) hlt
      rw [hLj] at hcell
      have y0 := hcell 0 (by omega)
      have y1 := hcell 1 (by omega)
      have y2 := hcell 2 (by omega)
      have y3 := hcell 3 (by omega)
      have y4 := hcell 4 (by omega)
      have y5 := hcell 5 (by omega)
      simp [noC] at y0 y1 y2 y3 y4 y5
      have hj0 : (0 : Int) ≤ (j : Int) := by omega
      have hjm : (j : Int) < (m : Int) := by omega
      have hjj : IntKind.i64.wrap ((j : Int) + 1) = (j : Int) + 1 := by have := HM.out; rw [IntKind.wrap_i64]; omega
      clear hcell HI0
      have hgs : (Value.slice (some (⟨g, 0, none⟩ : Addr)) m vc).ownBlock = some g := hgo
      go_upto_region 5 with fail
      obtain ⟨X1, hX1⟩ : ∃ X1, X1 = wr.alloc (.cells #[.int .i64 (Nd j).ino, .int .i64 (Nd j).kind, .int .i64 (Nd j).links, .int .i64 (Nd j).size, .slice (Nd j).bo (Nd j).bn (Nd j).bc, .slice (Nd j).so (Nd j).sn (Nd j).sc] 39) := ⟨_, rfl⟩
      have hBX : Below wr.heap.size wr X1 := by rw [hX1]; exact (Below.refl _ wr).alloc (Nat.le_refl _) _
      have gX1 : X1.heap[wr.heap.size]? = some (.cells #[.int .i64 (Nd j).ino, .int .i64 (Nd j).kind, .int .i64 (Nd j).links, .int .i64 (Nd j).size, .slice (Nd j).bo (Nd j).bn (Nd j).bc, .slice (Nd j).so (Nd j).sn (Nd j).sc] 39 (0, 0)) := by rw [hX1]; exact blk_new wr _
      have HX := Hid.mk (HK.out.blw hBX)
      rw [← hX1]
      generalize hbx : wr.heap.size = bx at *
      have HSS : Hid (∀ A, Below X1.drew.heap.size X1.drew A → A.cell? ⟨bx, 5, none⟩ = some (.slice (Nd j).so (Nd j).sn (Nd j).sc) ∧ A.cell? ⟨bx, 4, none⟩ = some (.slice (Nd j).bo (Nd j).bn (Nd j).bc)) := Hid.mk (fun A hA => by
        have h1 : A.heap[bx]? = X1.drew.heap[bx]? := hA.block bx (lt_of_block gX1)
        have h2 := h1.trans gX1
        exact ⟨by rw [blk_cell h2]; rfl, by rw [blk_cell h2]; rfl⟩)
      have HGO : Hid ((Value.slice (some (⟨g, 0, none⟩ : Addr)) m vc).ownBlock = some g) := Hid.mk hgs
      have HGB : Hid (bx ≠ g) := Hid.mk (by omega)
      obtain ⟨-, -, -, -, -, hPw, hEw, hwf⟩ := no_at (HN.out.blw HX.out.below) hlt
      have HPW := Hid.mk (And.intro hPw hwf)
      have HCE := Hid.mk (clonE_all X1.drew (Nd j).so (Nd j).sn (Nd j).sc (Nd j).E hEw (HS.out j hlt).1)
      have HCP : Hid (∀ A, Below X1.drew.heap.size X1.drew A → Calls Try.prog 46 #[.slice (Nd j).bo (Nd j).bn (Nd j).bc] A fun e w' => ∃ v', e = .returned v' ∧ w'.ownsRow A.heap.size 44 2 v' (Nd j).bn (Qy (Nd j).bn (Nd j).P) ∧ Below A.heap.size A w') := Hid.mk (fun A hA => clonP_all A (Nd j).bo (Nd j).bn (Nd j).bc (Nd j).P (PaAt.blw (W := X1.drew) hPw hA) (HS.out j hlt).2.1)
      clear hX1 hBX gX1 HK hbx hPw hEw hwf y0 y1 y2 y3 y4 y5 hgo hgs hbg hgl hLj
      go_cut [] from 17 to 31 (fun wc => Hid (∃ L', CpM w0 m Nd (.slice (some ⟨g, 0, none⟩) m vc) L' j 0 wc))
      case first =>
        refine wp_region_held_drew (S := fun A => A.cell? ⟨bx, 5, none⟩ = some (.slice (Nd j).so (Nd j).sn (Nd j).sc) ∧ A.cell? ⟨bx, 4, none⟩ = some (.slice (Nd j).bo (Nd j).bn (Nd j).bc)) (by kernel_rfl) (HSS.out _ (Below.refl _ _)) (fun hH => ?_)
        change wpAnyH Try.prog Region.Mode.any _ _ _ 16 _ _ _
        refine takeH 0 17 (.slice (some ⟨g, 0, none⟩) m vc) rfl (by kernel_rfl) (by kernel_rfl) (by kernel_rfl) (by kernel_rfl) (fun _ _ _ h => h) (by kernel_rfl) (fun w hw => by (try dsimp only at hw); go_simp) hH ?_
        simp only [List.setIfInBounds_toArray, List.set_cons_zero, List.set_cons_succ]
        refine takeH 1 18 (.int .i64 (j : Nat)) rfl (by kernel_rfl) (by kernel_rfl) (by kernel_rfl) (by kernel_rfl) (fun _ _ _ h => h) (by kernel_rfl) (fun w hw => by (try dsimp only at hw); go_simp) hH ?_
        simp only [List.setIfInBounds_toArray, List.set_cons_zero, List.set_cons_succ]
        refine takeH 2 19 (.slice (some ⟨g, 0, none⟩) m vc) rfl (by kernel_rfl) (by kernel_rfl) (by kernel_rfl) (by kernel_rfl) (fun _ _ _ h => h) (by kernel_rfl) (fun w hw => by (try dsimp only at hw); go_simp) hH ?_
        simp only [List.setIfInBounds_toArray, List.set_cons_zero, List.set_cons_succ]
        refine takeH 3 20 (.int .i64 (j : Nat)) rfl (by kernel_rfl) (by kernel_rfl) (by kernel_rfl) (by kernel_rfl) (fun _ _ _ h => h) (by kernel_rfl) (fun w hw => by (try dsimp only at hw); go_simp) hH ?_
        simp only [List.setIfInBounds_toArray, List.set_cons_zero, List.set_cons_succ]
        refine takeH 4 21 (.pointer (some ⟨bx, 5, none⟩)) rfl (by kernel_rfl) (by kernel_rfl) (by kernel_rfl) (by kernel_rfl) (fun _ _ _ h => h) (by kernel_rfl) (fun w hw => by (try dsimp only at hw); go_simp) hH ?_
        simp only [List.setIfInBounds_toArray, List.set_cons_zero, List.set_cons_succ]
        refine takeH 5 22 (.slice (Nd j).so (Nd j).sn (Nd j).sc) rfl (by kernel_rfl) (by kernel_rfl) (by kernel_rfl) (by kernel_rfl) (fun _ _ _ h => h) (by kernel_rfl) (fun w hw => by (try dsimp only at hw); go_simp) hH ?_
        simp only [List.setIfInBounds_toArray, List.set_cons_zero, List.set_cons_succ]
        refine takeH 7 24 (.pointer (some ⟨bx, 4, none⟩)) rfl (by kernel_rfl) (by kernel_rfl) (by kernel_rfl) (by kernel_rfl) (fun _ _ _ h => h) (by kernel_rfl) (fun w hw => by (try dsimp only at hw); go_simp) hH ?_
        simp only [List.setIfInBounds_toArray, List.set_cons_zero, List.set_cons_succ]
        refine takeH 8 25 (.slice (Nd j).bo (Nd j).bn (Nd j).bc) rfl (by kernel_rfl) (by kernel_rfl) (by kernel_rfl) (by kernel_rfl) (fun _ _ _ h => h) (by kernel_rfl) (fun w hw => by (try dsimp only at hw); go_simp) hH ?_
        simp only [List.setIfInBounds_toArray, List.set_cons_zero, List.set_cons_succ]
        refine stepH_call 6 23 rfl (by kernel_rfl) (by kernel_rfl) (by kernel_rfl) 45 #[.tmp 22] #[37] (by kernel_rfl) (enters_of Try.func45 (by kernel_rfl) rfl) #[.slice (Nd j).so (Nd j).sn (Nd j).sc] (by kernel_rfl) HCE.out ?_
        rintro e w2 ⟨v1, rfl, h2, hB2⟩
        obtain ⟨so, sc, rfl, -, -⟩ := owns_val h2
        refine ⟨_, rfl, HSS.out _ hB2, ?_⟩
        simp only [List.setIfInBounds_toArray, List.set_cons_zero, List.set_cons_succ]
        refine stepH_call 9 26 rfl (by kernel_rfl) (by kernel_rfl) (by kernel_rfl) 46 #[.tmp 25] #[36] (by kernel_rfl) (enters_of Try.func46 (by kernel_rfl) rfl) #[.slice (Nd j).bo (Nd j).bn (Nd j).bc] (by kernel_rfl) (HCP.out w2 hB2) ?_
        rintro e w3 ⟨v2, rfl, h3, hB3⟩
        obtain ⟨bo, bc, rfl, -, -⟩ := owns_val h3
        have hBT : Below X1.drew.heap.size X1.drew w3 := hB2.trans (hB3.mono hB2.size)
        have hS3 := HSS.out _ hBT
        refine ⟨_, rfl, hS3, ?_⟩
        simp only [List.setIfInBounds_toArray, List.set_cons_zero, List.set_cons_succ]
        have HXD := HX.out.blw (Below.refl X1.heap.size X1).drew
        obtain ⟨L2, hM⟩ := HXD.start HGO.out hlt (W2 := w2) (W3 := w3) hB2 h2 hB3 h3
        have hrow3 := owns_at HXD.row (w' := w3) (fun b e => hBT.block b (owns_kind HXD.row b e).2.1)
        have c5 := owns_cellG hrow3 HGO.out (j * 6 + 5) (by omega)
        have c5a : ∃ u, w3.cell? ⟨g, j * 6 + 5, none⟩ = some u := by rw [c5.1]; exact ⟨_, List.getElem?_eq_getElem (by rw [Ny_length, HX.out.len]; omega)⟩
        obtain ⟨u5, hu5⟩ := c5a
        have hS4 : (w3.setCell ⟨g, j * 6 + 5, none⟩ (.slice so (Nd j).sn sc)).cell? ⟨bx, 5, none⟩ = some (.slice (Nd j).so (Nd j).sn (Nd j).sc) ∧ (w3.setCell ⟨g, j * 6 + 5, none⟩ (.slice so (Nd j).sn sc)).cell? ⟨bx, 4, none⟩ = some (.slice (Nd j).bo (Nd j).bn (Nd j).bc) := ⟨(World.cell?_of_block (w := w3) (a := ⟨bx, 5, none⟩) (Below.heap_setCell _ _ _ _ HGB.out)).trans hS3.1, (World.cell?_of_block (w := w3) (a := ⟨bx, 4, none⟩) (Below.heap_setCell _ _ _ _ HGB.out)).trans hS3.2⟩
        have hrow4 := owns_setG hrow3 HGO.out (j * 6 + 5) (.slice so (Nd j).sn sc)
        have c4 := owns_cellG hrow4 HGO.out (j * 6 + 4) (by omega)
        have c4a : ∃ u, (w3.setCell ⟨g, j * 6 + 5, none⟩ (.slice so (Nd j).sn sc)).cell? ⟨g, j * 6 + 4, none⟩ = some u := by rw [c4.1]; exact ⟨_, List.getElem?_eq_getElem (by rw [List.length_set, Ny_length, HX.out.len]; omega)⟩
        obtain ⟨u4, hu4⟩ := c4a
        refine stepH 10 27 (.pointer (some ⟨g, j * 6, none⟩)) rfl (by kernel_rfl) (by kernel_rfl) (by kernel_rfl) (by go_simp) hS3 ?_
        simp only [List.setIfInBounds_toArray, List.set_cons_zero, List.set_cons_succ]
        refine stepH 11 28 (.pointer (some ⟨g, j * 6 + 5, none⟩)) rfl (by kernel_rfl) (by kernel_rfl) (by kernel_rfl) (by go_simp) hS3 ?_
        simp only [List.setIfInBounds_toArray, List.set_cons_zero, List.set_cons_succ]
        refine stepH_one 12 (by kernel_rfl) ?_
        refine opH_store 12 (w3.setCell ⟨g, j * 6 + 5, none⟩ (.slice so (Nd j).sn sc)) rfl (by kernel_rfl) (by kernel_rfl) (exec_stE (p := .tmp 28) (x := .tmp 23) rfl (by kernel_rfl) (by kernel_rfl) hu5 c5.2) hS4 ?_
        refine stepH 13 29 (.pointer (some ⟨g, j * 6, none⟩)) rfl (by kernel_rfl) (by kernel_rfl) (by kernel_rfl) (by go_simp) hS4 ?_
        simp only [List.setIfInBounds_toArray, List.set_cons_zero, List.set_cons_succ]
        refine stepH 14 30 (.pointer (some ⟨g, j * 6 + 4, none⟩)) rfl (by kernel_rfl) (by kernel_rfl) (by kernel_rfl) (by go_simp) hS4 ?_
        simp only [List.setIfInBounds_toArray, List.set_cons_zero, List.set_cons_succ]
        refine stepH_one 15 (by kernel_rfl) ?_
        refine opH_store 15 ((w3.setCell ⟨g, j * 6 + 5, none⟩ (.slice so (Nd j).sn sc)).setCell ⟨g, j * 6 + 4, none⟩ (.slice bo (Nd j).bn bc)) rfl (by kernel_rfl) (by kernel_rfl) (exec_stP (p := .tmp 30) (x := .tmp 26) rfl (by kernel_rfl) (by kernel_rfl) hu4 c4.2) ⟨(World.cell?_of_block (a := ⟨bx, 5, none⟩) (Below.heap_setCell _ _ _ _ HGB.out)).trans hS4.1, (World.cell?_of_block (a := ⟨bx, 4, none⟩) (Below.heap_setCell _ _ _ _ HGB.out)).trans hS4.2⟩ ?_
        refine wpAnyH_done (by kernel_rfl) ?_ _
        go_wp2
        go_meet
        case rel => exact Hid.mk ⟨L2, hM⟩
      case rest =>
      obtain ⟨L2, hM0⟩ := hcut.out
      have hjl2 : j < L2.length := by rw [hM0.len]; exact hlt
      have z4 := (owns_cellG hM0.row HGO.out (j * 6 + 4) (by omega)).1.trans (Ny_get L2 j 4 hjl2 (by omega))
      have hb2 : blV (L2.getD j noZ) = .slice (L2.getD j noZ).bo (Nd j).bn (L2.getD j noZ).bc := by unfold blV; rw [(hM0.val j hlt).bn]
      have z4' : wc.cell? ⟨g, j * 6 + 4, none⟩ = some (.slice (L2.getD j noZ).bo (Nd j).bn (L2.getD j noZ).bc) := z4.trans (congrArg some hb2)
      generalize hbo1 : (L2.getD j noZ).bo = bo1 at *
      generalize hbc1 : (L2.getD j noZ).bc = bc1 at *
      have HM0 := Hid.mk (And.intro hM0 hb2)
      clear hcut hM0 hb2 z4 hbo1 hbc1 hjl2 HSS HCE HCP HX
      go_wp2
      clear z4'
      go_loopw [37] (fun iv w5 => ∃ (q : Nat) (L' : List NoV), q ≤ (Nd j).bn ∧ iv = .int .i64 (q : Int) ∧ Hid (CpM w0 m Nd (.slice (some ⟨g, 0, none⟩) m vc) L' j q w5 ∧ blV (L'.getD j noZ) = .slice bo1 (Nd j).bn bc1)) (fun iv _ => (((Nd j).bn : Int) - Go.RowKit.intOf iv).toNat)
      case atStart => exact ⟨0, L2, by omega, rfl, HM0⟩
      case round =>
        obtain ⟨q, L', hq, rfl, HKK⟩ := hrel
        obtain ⟨w5, rfl⟩ : ∃ w5, w5 = wr := ⟨_, rfl⟩
        by_cases hlq : q < (Nd j).bn
        · have hcp := HKK.out.1.cur.parts
          rw [(HKK.out.1.val j hlt).bn, HKK.out.2] at hcp
          obtain ⟨pb, c2, e2, hpb0, hpbl, hpbo, -⟩ := owns_some hcp (by omega)
          cases e2
          have hPq := HKK.out.1.old q (Nat.le_refl _) hlq
          have x0 := (owns_cellG hcp hpbo (q * 2) (by omega)).1.trans (Qy_get (Nd j).bn _ q hlq).1
          have x1 := (owns_cellG hcp hpbo (q * 2 + 1) (by omega)).1.trans (Qy_get (Nd j).bn _ q hlq).2
          rw [hPq] at x0 x1
          obtain ⟨-, -, -, -, -, hPw, -, -⟩ := no_at (HN.out.blw HKK.out.1.below) hlt
          obtain ⟨b9, o9, -, -, hpc9⟩ := hPw (by omega)
          obtain ⟨-, hdat, hdw⟩ := hpc9 q hlq
          have hds := (HS.out j hlt).2.2 q hlq
          have hq0 : (0 : Int) ≤ (q : Int) := by omega
          have hqb : (q : Int) < ((Nd j).bn : Int) := by omega
          have hqq : IntKind.i64.wrap ((q : Int) + 1) = (q : Int) + 1 := by have := (HS.out j hlt).2.1; rw [IntKind.wrap_i64]; omega
          have HDT := Hid.mk (And.intro hdat (And.intro hdw.2.2.1 hds))
          have HPB := Hid.mk hpbo
          have HPG : Hid (g ≠ pb) := Hid.mk (fun e => by
            obtain ⟨-, -, cs1, h1⟩ := owns_kind HKK.out.1.row g HGO.out
            obtain ⟨-, -, cs2, h2⟩ := owns_kind hcp pb hpbo
            rw [e, h2] at h1
            cases h1)
          clear hcp hPq hPw hpc9 hdat hdw hds hpb0
          go_upto_region 9 with fail
          obtain ⟨X5, hX5⟩ : ∃ X5, X5 = w5.alloc (.cells #[.int .i64 ((Nd j).P q).at', .slice ((Nd j).P q).ao ((Nd j).P q).m ((Nd j).P q).cc] 44) := ⟨_, rfl⟩
          have hBX : Below w5.heap.size w5 X5 := by rw [hX5]; exact (Below.refl _ w5).alloc (Nat.le_refl _) _
          have gX5 : X5.heap[w5.heap.size]? = some (.cells #[.int .i64 ((Nd j).P q).at', .slice ((Nd j).P q).ao ((Nd j).P q).m ((Nd j).P q).cc] 44 (0, 0)) := by rw [hX5]; exact blk_new w5 _
          have HX := Hid.mk (HKK.out.1.blw hBX)
          have hgl5 : g < w5.heap.size := (owns_kind HKK.out.1.row g HGO.out).2.1
          rw [← hX5]
          have hz4 : (Ny L')[j * 6 + 4]? = some (.slice (some ⟨pb, 0, none⟩) (Nd j).bn bc1) := by
            rw [Ny_get L' j 4 (by rw [HKK.out.1.len]; exact hlt) (by omega)]
            exact congrArg some HKK.out.2
          generalize hbp : w5.heap.size = bp at *
          have HSS : Hid (∀ A, Below X5.drew.heap.size X5.drew A → A.cell? ⟨g, j * 6 + 4, none⟩ = some (.slice (some ⟨pb, 0, none⟩) (Nd j).bn bc1) ∧ A.cell? ⟨bp, 1, none⟩ = some (.slice ((Nd j).P q).ao ((Nd j).P q).m ((Nd j).P q).cc)) := Hid.mk (fun A hA => by
            have h1 : A.heap[bp]? = X5.drew.heap[bp]? := hA.block bp (lt_of_block gX5)
            have h2 := h1.trans gX5
            have h3 := owns_at HX.out.row (w' := A) (fun b e => hA.block b (owns_kind HX.out.row b e).2.1)
            exact ⟨(owns_cellG h3 HGO.out (j * 6 + 4) (by omega)).1.trans hz4, by rw [blk_cell h2]; rfl⟩)
          have HCB := Hid.mk (clonB_all X5.drew ((Nd j).P q).ao ((Nd j).P q).m ((Nd j).P q).cc ((Nd j).P q).xs (HDT.out.1.only (Only.of_new (fun _ => False) (by rw [hbp]; exact hBX.drew)) (fun _ _ _ h => h)) (fun e => (HDT.out.2.1 e).1) HDT.out.2.2)
          have HNG : Hid (bp ≠ pb ∧ bp ≠ g) := Hid.mk ⟨by omega, by omega⟩
          have HBV := Hid.mk HKK.out.2
          clear hX5 hBX gX5 hbp x0 x1 hz4 hgl5 hpbl HKK HDT
          refine wp_region_held_drew (S := fun A => A.cell? ⟨g, j * 6 + 4, none⟩ = some (.slice (some ⟨pb, 0, none⟩) (Nd j).bn bc1) ∧ A.cell? ⟨bp, 1, none⟩ = some (.slice ((Nd j).P q).ao ((Nd j).P q).m ((Nd j).P q).cc)) (by kernel_rfl) (HSS.out _ (Below.refl _ _)) (fun hH => ?_)
          change wpAnyH Try.prog Region.Mode.any _ _ _ 12 _ _ _
          refine takeH 0 42 (.slice (some ⟨g, 0, none⟩) m vc) rfl (by kernel_rfl) (by kernel_rfl) (by kernel_rfl) (by kernel_rfl) (fun _ _ _ h => h) (by kernel_rfl) (fun w hw => by (try dsimp only at hw); go_simp) hH ?_
          simp only [List.setIfInBounds_toArray, List.set_cons_zero, List.set_cons_succ]
          refine takeH 1 43 (.int .i64 (j : Nat)) rfl (by kernel_rfl) (by kernel_rfl) (by kernel_rfl) (by kernel_rfl) (fun _ _ _ h => h) (by kernel_rfl) (fun w hw => by (try dsimp only at hw); go_simp) hH ?_
          simp only [List.setIfInBounds_toArray, List.set_cons_zero, List.set_cons_succ]
          refine takeH 2 44 (.pointer (some ⟨g, j * 6, none⟩)) rfl (by kernel_rfl) (by kernel_rfl) (by kernel_rfl) (by kernel_rfl) (fun _ _ _ h => h) (by kernel_rfl) (fun w hw => by (try dsimp only at hw); go_simp) hH ?_
          simp only [List.setIfInBounds_toArray, List.set_cons_zero, List.set_cons_succ]
          refine takeH 3 45 (.pointer (some ⟨g, j * 6 + 4, none⟩)) rfl (by kernel_rfl) (by kernel_rfl) (by kernel_rfl) (by kernel_rfl) (fun _ _ _ h => h) (by kernel_rfl) (fun w hw => by (try dsimp only at hw); go_simp) hH ?_
          simp only [List.setIfInBounds_toArray, List.set_cons_zero, List.set_cons_succ]
          refine takeH 4 46 (.slice (some ⟨pb, 0, none⟩) (Nd j).bn bc1) rfl (by kernel_rfl) (by kernel_rfl) (by kernel_rfl) (by kernel_rfl) (fun _ _ _ h => h) (by kernel_rfl) (fun w hw => by (try dsimp only at hw); go_simp) hH ?_
          simp only [List.setIfInBounds_toArray, List.set_cons_zero, List.set_cons_succ]
          refine takeH 5 47 (.int .i64 (q : Nat)) rfl (by kernel_rfl) (by kernel_rfl) (by kernel_rfl) (by kernel_rfl) (fun _ _ _ h => h) (by kernel_rfl) (fun w hw => by (try dsimp only at hw); go_simp) hH ?_
          simp only [List.setIfInBounds_toArray, List.set_cons_zero, List.set_cons_succ]
          refine takeH 6 48 (.pointer (some ⟨bp, 1, none⟩)) rfl (by kernel_rfl) (by kernel_rfl) (by kernel_rfl) (by kernel_rfl) (fun _ _ _ h => h) (by kernel_rfl) (fun w hw => by (try dsimp only at hw); go_simp) hH ?_
          simp only [List.setIfInBounds_toArray, List.set_cons_zero, List.set_cons_succ]
          refine takeH 7 49 (.slice ((Nd j).P q).ao ((Nd j).P q).m ((Nd j).P q).cc) rfl (by kernel_rfl) (by kernel_rfl) (by kernel_rfl) (by kernel_rfl) (fun _ _ _ h => h) (by kernel_rfl) (fun w hw => by (try dsimp only at hw); go_simp) hH ?_
          simp only [List.setIfInBounds_toArray, List.set_cons_zero, List.set_cons_succ]
          refine stepH_call 8 50 rfl (by kernel_rfl) (by kernel_rfl) (by kernel_rfl) 47 #[.tmp 49] #[42] (by kernel_rfl) (enters_of Try.func47 (by kernel_rfl) rfl) #[.slice ((Nd j).P q).ao ((Nd j).P q).m ((Nd j).P q).cc] (by kernel_rfl) HCB.out ?_
          rintro e w6 ⟨v6, rfl, h6, hB6⟩
          obtain ⟨dd, dc, rfl, -, -⟩ := owns_val h6
          have hS6 := HSS.out _ hB6
          refine ⟨_, rfl, hS6, ?_⟩
          simp only [List.setIfInBounds_toArray, List.set_cons_zero, List.set_cons_succ]
          have HXD := HX.out.blw (Below.refl X5.heap.size X5).drew
          have hpb2 : (blV (L'.getD j noZ)).ownBlock = some pb := by rw [HBV.out]; exact HPB.out
          obtain ⟨L3, hM, hbl3⟩ := HXD.data hlt hlq hpb2 (W2 := w6) hB6 h6
          have hrow6 := owns_at HXD.cur.parts (w' := w6) (fun b e => hB6.block b (owns_kind HXD.cur.parts b e).2.1)
          have hbn6 := (HXD.val j hlt).bn
          have c5 := owns_cellG hrow6 hpb2 (q * 2 + 1) (by omega)
          have c5a : ∃ u, w6.cell? ⟨pb, q * 2 + 1, none⟩ = some u := by rw [c5.1]; exact ⟨_, List.getElem?_eq_getElem (by rw [Qy, flat2_length]; omega)⟩
          obtain ⟨u5, hu5⟩ := c5a
          refine stepH 9 51 (.pointer (some ⟨pb, q * 2, none⟩)) rfl (by kernel_rfl) (by kernel_rfl) (by kernel_rfl) (by go_simp) hS6 ?_
          simp only [List.setIfInBounds_toArray, List.set_cons_zero, List.set_cons_succ]
          refine stepH 10 52 (.pointer (some ⟨pb, q * 2 + 1, none⟩)) rfl (by kernel_rfl) (by kernel_rfl) (by kernel_rfl) (by go_simp) hS6 ?_
          simp only [List.setIfInBounds_toArray, List.set_cons_zero, List.set_cons_succ]
          refine stepH_one 11 (by kernel_rfl) ?_
          refine opH_store 11 (w6.setCell ⟨pb, q * 2 + 1, none⟩ (.slice dd ((Nd j).P q).m dc)) rfl (by kernel_rfl) (by kernel_rfl) (exec_stB (p := .tmp 52) (x := .tmp 50) rfl (by kernel_rfl) (by kernel_rfl) hu5 c5.2) ⟨(World.cell?_of_block (a := ⟨g, j * 6 + 4, none⟩) (Below.heap_setCell _ _ _ _ HPG.out)).trans hS6.1, (World.cell?_of_block (a := ⟨bp, 1, none⟩) (Below.heap_setCell _ _ _ _ HNG.out.1)).trans hS6.2⟩ ?_
          refine wpAnyH_done (by kernel_rfl) ?_ _
          go_wp2
          go_roundw
          case rel => exact ⟨q + 1, L3, hlq, by push_cast; rfl, Hid.mk ⟨hM, hbl3.trans HBV.out⟩⟩
          case measure => simp [Go.RowKit.intOf]; omega
        · obtain rfl : q = (Nd j).bn := by omega
          have HD := Hid.mk (HKK.out.1.done hlt rfl)
          go_wp2
          go_roundw
          case rel => exact ⟨j + 1, L', hlt, by push_cast; rfl, HD⟩
          case measure => simp [Go.RowKit.intOf]; omega
    · obtain rfl : j = m := by omega
      go_wp2
      refine bodyPost_ret (results_tmp rfl _ _ _) rfl ?_
      exact ⟨_, _, rfl, HK.out⟩
end Go.Proofs.Ytbahbhaoimabdaa
