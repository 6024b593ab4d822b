/-
  The reference's graph in memory.
-/
import Derived.Test.YthmbhcmicebcpaaDpRel3
import Derived.BigQuiet
namespace Go.Proofs.Ythmbhcmicebcpaa
open Go Go.Proofs Go.RowKit Go.Shelf
/-- A change of the reference: its buffer, its row as it lies, whether it is done. -/
structure Rc where
  buf : Int
  ov : Value
  dn : Bool
def rcC (c : Rc) : List Value := [.int .i64 c.buf, c.ov, .bool c.dn]
def Ry (L : List Rc) : List Value := L.flatMap rcC
def Rc.zero : Rc := ⟨0, .slice none 0 0, false⟩
theorem Ry_len (L : List Rc) : (Ry L).length = L.length * 3 := by
  induction L with
  | nil => rfl
  | cons c r ih => show (rcC c ++ Ry r).length = _; rw [List.length_append, ih]; simp [rcC]; omega
theorem Ry_app (L M : List Rc) : Ry (L ++ M) = Ry L ++ Ry M := by simp [Ry]
theorem Ry_get (L : List Rc) {i : Nat} (hi : i < L.length) : (Ry L)[i * 3]? = some (.int .i64 (L.getD i Rc.zero).buf) ∧ (Ry L)[i * 3 + 1]? = some (L.getD i Rc.zero).ov ∧ (Ry L)[i * 3 + 2]? = some (.bool (L.getD i Rc.zero).dn) := by
  induction L generalizing i with
  | nil => simp at hi
  | cons c r ih =>
    have e : Ry (c :: r) = rcC c ++ Ry r := rfl
    rw [e]
    cases i with
    | zero => exact ⟨rfl, rfl, rfl⟩
    | succ i =>
      have := ih (i := i) (by simpa using hi)
      have hl : (rcC c).length = 3 := rfl
      refine ⟨?_, ?_, ?_⟩
      · rw [List.getElem?_append_right (by omega), hl, show (i + 1) * 3 - 3 = i * 3 by omega]; exact this.1
      · rw [List.getElem?_append_right (by omega), hl, show (i + 1) * 3 + 1 - 3 = i * 3 + 1 by omega]; exact this.2.1
      · rw [List.getElem?_append_right (by omega), hl, show (i + 1) * 3 + 2 - 3 = i * 3 + 2 by omega]; exact this.2.2
/-- What a change hangs on, as it lies. -/
def OnAt (F : Nat → Prop) (W : World) (r : Nat) (v ov : Value) (xs : List Int) : Prop := ∃ ao m cc, ov = .slice ao m cc ∧ LAt W ao m xs ∧ m ≤ 1000000 ∧ ∀ a, ao = some a → 0 < m → F a.block ∧ a.block < W.heap.size ∧ a.block ≠ r ∧ v.ownBlock ≠ some a.block
/-- The graph at block r, its row v; F: the blocks that it may own. -/
structure RgAt (F : Nat → Prop) (W : World) (r : Nat) (v : Value) (G : Gp) : Prop where
  top : W.heap[r]? = some (.cells #[v] 32 (0, 0))
  fr : F r
  fv : ∀ k, v.ownBlock = some k → F k ∧ k ≠ r
  row : ∃ L, G.n = L.length ∧ W.ownsRow 0 34 3 v L.length (Ry L) ∧ (∀ j : Nat, j < L.length → G.buf j = (L.getD j Rc.zero).buf ∧ G.dn j = (L.getD j Rc.zero).dn ∧ OnAt F W r v (L.getD j Rc.zero).ov (G.on j))
section
variable {F : Nat → Prop} {W W' : World} {r : Nat} {v : Value} {G : Gp}
theorem OnAt.keep {ov : Value} {xs : List Int} (h : OnAt F W r v ov xs) (hs : W.heap.size ≤ W'.heap.size) (hk : ∀ k, F k → k < W.heap.size → k ≠ r → v.ownBlock ≠ some k → W'.heap[k]? = W.heap[k]?) : OnAt F W' r v ov xs := by
  obtain ⟨ao, m, cc, rfl, h1, h2, h3⟩ := h
  refine ⟨ao, m, cc, rfl, lat_keep h1 (fun a e h0 => ?_) hs, h2, fun a e h0 => ?_⟩
  · obtain ⟨q1, q2, q3, q4⟩ := h3 a e h0
    exact hk _ q1 q2 q3 q4
  · obtain ⟨q1, q2, q3, q4⟩ := h3 a e h0
    exact ⟨q1, Nat.lt_of_lt_of_le q2 hs, q3, q4⟩
theorem own_lt {n : Nat} {xs : List Value} {B : Nat} (h : W.ownsRow B 34 3 v n xs) {k : Nat} (hk : v.ownBlock = some k) : k < W.heap.size := by
  rcases h.2 with ⟨rfl, _⟩ | ⟨g, cap, cur, rfl, _, hg, _⟩
  · cases hk
  · cases hk; exact lt_of_block hg
theorem own_keep {n : Nat} {xs : List Value} {B : Nat} (h : W.ownsRow B 34 3 v n xs) (hk : ∀ k, v.ownBlock = some k → W'.heap[k]? = W.heap[k]?) : W'.ownsRow B 34 3 v n xs := by
  refine ⟨h.1, ?_⟩
  rcases h.2 with q | ⟨g, cap, cur, rfl, h1, hg, h2⟩
  · exact .inl q
  · exact .inr ⟨g, cap, cur, rfl, h1, (hk g rfl).trans hg, h2⟩
theorem RgAt.keep (h : RgAt F W r v G) (hs : W.heap.size ≤ W'.heap.size) (hk : ∀ k, F k → k < W.heap.size → W'.heap[k]? = W.heap[k]?) : RgAt F W' r v G := by
  obtain ⟨L, h1, h2, h3⟩ := h.row
  refine ⟨(hk r h.fr (lt_of_block h.top)).trans h.top, h.fr, h.fv, L, h1, own_keep h2 (fun k q => hk k (h.fv k q).1 (own_lt h2 q)), fun j hj => ⟨(h3 j hj).1, (h3 j hj).2.1, (h3 j hj).2.2.keep hs (fun k q1 q2 _ _ => hk k q1 q2)⟩⟩
theorem RgAt.below (h : RgAt F W r v G) (hB : Below W.heap.size W W') : RgAt F W' r v G := h.keep hB.size (fun k _ hk => hB.block k hk)
theorem RgAt.mono {F' : Nat → Prop} (h : RgAt F W r v G) (hF : ∀ k, k < W.heap.size → F k → F' k) : RgAt F' W r v G := by
  obtain ⟨L, h1, h2, h3⟩ := h.row
  refine ⟨h.top, hF r (lt_of_block h.top) h.fr, fun k q => ⟨hF k (own_lt h2 q) (h.fv k q).1, (h.fv k q).2⟩, L, h1, h2, fun j hj => ⟨(h3 j hj).1, (h3 j hj).2.1, ?_⟩⟩
  obtain ⟨ao, m, cc, e, a1, a2, a3⟩ := (h3 j hj).2.2
  refine ⟨ao, m, cc, e, a1, a2, fun a ea h0 => ?_⟩
  obtain ⟨q1, q2, q3, q4⟩ := a3 a ea h0
  exact ⟨hF _ q2 q1, q2, q3, q4⟩
theorem RgAt.cell (h : RgAt F W r v G) : W.cell? ⟨r, 0, none⟩ = some v := by rw [blk_cell h.top]; rfl
theorem RgAt.slice (h : RgAt F W r v G) : ∃ ao c, v = .slice ao G.n c ∧ G.n ≤ 9223372036854775807 := by
  obtain ⟨L, h1, h2, _⟩ := h.row
  rcases h2.2 with ⟨rfl, q⟩ | ⟨g, cap, cur, rfl, _, _, q1, q2, _⟩
  · rw [h1, q]; exact ⟨none, 0, rfl, by omega⟩
  · rw [h1]; exact ⟨_, cap, rfl, by unfold maxLen at q2; omega⟩
/-- The cells of the row. -/
theorem RgAt.at' (h : RgAt F W r v G) (h0 : 0 < G.n) : ∃ gb cap, v = .slice (some ⟨gb, 0, none⟩) G.n cap ∧ gb ≠ r ∧ F gb ∧ gb < W.heap.size ∧ (∀ j, W.frozen? ⟨gb, j, none⟩ = false) ∧ ∀ j : Nat, j < G.n → W.cell? ⟨gb, j * 3, none⟩ = some (.int .i64 (G.buf j)) ∧ (∃ ao m cc, W.cell? ⟨gb, j * 3 + 1, none⟩ = some (.slice ao m cc) ∧ LAt W ao m (G.on j) ∧ m ≤ 1000000) ∧ W.cell? ⟨gb, j * 3 + 2, none⟩ = some (.bool (G.dn j)) := by
  obtain ⟨L, h1, h2, h3⟩ := h.row
  rcases h2.2 with ⟨_, q⟩ | ⟨g, cap, cur, rfl, _, hg, q1, q2, q3, q4⟩
  · omega
  · refine ⟨g, cap, by rw [h1], (h.fv g rfl).2, (h.fv g rfl).1, lt_of_block hg, fun j => blk_free hg j, fun j hj => ?_⟩
    rw [h1] at hj
    obtain ⟨e1, e2, e3⟩ := Ry_get L hj
    have get : ∀ i, i < L.length * 3 → W.cell? ⟨g, i, none⟩ = (Ry L)[i]? := fun i hi => by
      rw [blk_cell hg, ← q4, List.getElem?_take, if_pos hi, Array.getElem?_toList]
    obtain ⟨a1, a2, ao, m, cc, a3, a4, a5, _⟩ := h3 j hj
    refine ⟨?_, ⟨ao, m, cc, ?_, a4, a5⟩, ?_⟩
    · rw [get _ (by omega), e1, a1]
    · rw [get _ (by omega), e2, a3]
    · rw [get _ (by omega), e3, a2]
end
/-- May a change be written now? -/
def mayB (G : Gp) (i : Int) : Bool := (G.on i).all (fun x => G.dn x) && !G.dn i
theorem may_iff {G : Gp} (hG : G.Ok) {i : Int} (hi : 0 ≤ i ∧ i < G.n) : mayB G i = true ↔ mayP G i := by
  unfold mayB mayP und hng und
  rw [Bool.and_eq_true, List.all_eq_true]
  constructor
  · rintro ⟨h1, h2⟩
    refine ⟨⟨hi, by simpa using h2⟩, fun x q => ?_⟩
    have := h1 x q.1
    rw [q.2.2] at this
    cases this
  · rintro ⟨h1, h2⟩
    refine ⟨fun x hx => ?_, by simp [h1.2]⟩
    have := hG.dag i x hi hx
    cases hd : G.dn x with
    | true => rfl
    | false => exact absurd ⟨hx, ⟨this.1, by omega⟩, hd⟩ (h2 x)
end Go.Proofs.Ythmbhcmicebcpaa
namespace Go.Proofs.Ythmbhcmicebcpaa
open Go Go.Proofs Go.RowKit Go.Shelf
attribute [local go_sem] Oper.semAt_some
theorem all_take {xs : List Int} {f : Int → Bool} {k : Nat} (hk : k < xs.length) : (xs.take (k + 1)).all f = ((xs.take k).all f && f (xs.getD k 0)) := by
  rw [List.take_add_one, List.getElem?_eq_getElem hk, List.all_append]
  simp [List.getD, List.getElem?_eq_getElem hk]
section
variable {F : Nat → Prop} {w : World} {r : Nat} {v : Value} {G : Gp}
set_option maxRecDepth 100000 in
set_option maxHeartbeats 4000000 in
theorem rmay_any (h : RgAt F w r v G) (hG : G.Ok) (i : Nat) (hi : i < G.n) : Calls Try.prog 34 #[ptV r, .int .i64 (i : Nat)] w fun e w' => e = .returned (.bool (mayB G i)) ∧ Below w.heap.size w w' := by
  obtain ⟨gb, cap, rfl, hne, _, hgl, _, hc⟩ := h.at' (by omega)
  have c0 := h.cell
  obtain ⟨d1, ⟨ao, m, cc, d2, dl, dm⟩, d3⟩ := hc i hi
  obtain ⟨n, hn⟩ : ∃ n, n = G.n := ⟨_, rfl⟩
  rw [← hn] at c0 hi hc
  have HDG : Hid (∀ x ∈ G.on i, ∃ k : Nat, x = (k : Nat) ∧ k < n) := Hid.mk (fun x hx => by
    have := hG.dag i x ⟨by omega, by omega⟩ hx
    exact ⟨x.toNat, by omega, by omega⟩)
  have HC := Hid.mk hc
  have i1 : ((i : Nat) : Int) < (n : Int) := by omega
  have i0 : (0 : Int) ≤ ((i : Nat) : Int) := by omega
  have e8 : (⟨gb, 0, none⟩ : Addr).add (i * 3) = ⟨gb, i * 3, none⟩ := by rw [add_at]; simp
  obtain ⟨w0, hw0⟩ : ∃ w0, w0 = w.alloc (.cells #[.int .i64 (G.buf i), .slice ao m cc, .bool (G.dn i)] 34) := ⟨_, rfl⟩
  have hB : Below w.heap.size w w0 := by rw [hw0]; exact (Below.refl _ w).alloc (Nat.le_refl _) _
  have hbx : w0.heap[w.heap.size]? = some (.cells #[.int .i64 (G.buf i), .slice ao m cc, .bool (G.dn i)] 34 (0, 0)) := by rw [hw0]; exact blk_new w _
  obtain ⟨b, hb⟩ : ∃ b, b = w.heap.size := ⟨_, rfl⟩
  have HF : Hid (∀ W, Below w0.heap.size w0 W → W.cell? ⟨r, 0, none⟩ = some (.slice (some ⟨gb, 0, none⟩) n cap) ∧ W.cell? ⟨b, 1, none⟩ = some (.slice ao m cc) ∧ W.cell? ⟨b, 2, none⟩ = some (.bool (G.dn i)) ∧ LAt W ao m (G.on i) ∧ (∀ j : Nat, j < n → W.cell? ⟨gb, j * 3 + 2, none⟩ = some (.bool (G.dn j))) ∧ Below w.heap.size w W) := Hid.mk (fun W hB2 => by
    have hBw : Below w.heap.size w W := hB.trans (hB2.mono hB.size)
    have hx := (hB2.block _ (lt_of_block hbx)).trans hbx
    rw [← hb] at hx
    refine ⟨?_, by rw [blk_cell hx]; rfl, by rw [blk_cell hx]; rfl, dl.next hBw, fun j hj => ?_, hBw⟩
    · have := (h.below hBw).cell
      rw [← hn] at this
      exact this
    · rw [World.cell?_of_block (w := w) (hBw.block gb hgl)]
      exact (HC.out j hj).2.2)
  obtain ⟨xs, hxs⟩ : ∃ xs, xs = G.on i := ⟨_, rfl⟩
  rw [← hxs] at HF HDG
  have HL : Hid (xs.length = m ∧ m ≤ 1000000) := Hid.mk ⟨by rw [hxs]; exact dl.1, dm⟩
  obtain ⟨dn, hdn⟩ : ∃ dn, dn = G.dn i := ⟨_, rfl⟩
  obtain ⟨res, hres⟩ : ∃ res, res = mayB G i := ⟨_, rfl⟩
  rw [← hres]
  have HR : Hid (res = (xs.all (fun x => G.dn x) && !dn)) := Hid.mk (by rw [hres, hdn, hxs]; rfl)
  rw [← hdn] at HF d3 hw0
  obtain ⟨bf, hbf⟩ : ∃ bf, bf = G.buf i := ⟨_, rfl⟩
  rw [← hbf] at d1 hw0
  clear hc dl dm hn hxs hdn hres hbf h hB hbx hG hgl
  go_enter Try.func34, Try.ntmps34
  go_wp2
  rw [← hw0, ← hb]
  clear hw0 hb c0 d1 d2 d3 e8
  go_loopw [6] (fun kv wr => ∃ k : Nat, kv = .int .i64 k ∧ Hid (Below w0.heap.size w0 wr ∧ k ≤ m ∧ (xs.take k).all (fun x => G.dn x) = true)) (fun kv _ => m - (Go.RowKit.intOf kv).toNat)
  case atStart => exact ⟨0, rfl, Hid.mk ⟨Below.refl _ _, Nat.zero_le _, by simp⟩⟩
  case round =>
    obtain ⟨k, rfl, HK⟩ := hrel
    obtain ⟨f1, f2, f3, f4, f5, f6⟩ := HF.out wr HK.out.1
    by_cases hkl : (k : Int) < (m : Int)
    · have v1 : IntKind.i64.wrap ((k : Int) + 1) = ((k + 1 : Nat) : Int) := by have := HL.out; rw [IntKind.wrap_i64]; omega
      have HKL : Hid (k < m ∧ k < xs.length) := Hid.mk (by have := HL.out; omega)
      obtain ⟨a, rfl, _, hca⟩ := f4.2 (by omega)
      have q1 := hca k HKL.out.1
      obtain ⟨y, hy, hyn⟩ := HDG.out (xs.getD k 0) (by rw [List.getD, List.getElem?_eq_getElem HKL.out.2]; exact List.getElem_mem _)
      have HT := Hid.mk (all_take (f := fun x => G.dn x) HKL.out.2)
      rw [hy] at q1 HT
      have q2 := f5 y hyn
      have y1 : ((y : Nat) : Int) < (n : Int) := by omega
      have y0 : (0 : Int) ≤ ((y : Nat) : Int) := by omega
      have k0 : (0 : Int) ≤ ((k : Nat) : Int) := by omega
      have e9 : (⟨gb, 0, none⟩ : Addr).add (y * 3) = ⟨gb, y * 3, none⟩ := by rw [add_at]; simp
      have HBW : Hid (∀ q, Below w0.heap.size w0 (wr.drewN q)) := Hid.mk (fun q => HK.out.1.trans (below_drewN' _ _ _ HK.out.1.size))
      have HBX : Hid (∀ q, Below w.heap.size w (wr.drewN q)) := Hid.mk (fun q => (HF.out _ (HBW.out q)).2.2.2.2.2)
      have HA := Hid.mk HK.out.2.2
      cases hd : G.dn (y : Nat) with
      | true =>
        rw [hd] at q2
        have HT2 : Hid ((xs.take (k + 1)).all (fun x => G.dn x) = true) := Hid.mk (by rw [HT.out, HA.out, hd]; rfl)
        clear hca f4 f5 f6 hy hyn HK hd HT HA
        go_wp2
        go_quiet (fail)
        go_wp2
        go_roundw
        case rel => exact ⟨k + 1, rfl, Hid.mk ⟨HBW.out _, HKL.out.1, HT2.out⟩⟩
        case measure => (have := HKL.out.1; simp [Go.RowKit.intOf]; omega)
      | false =>
        rw [hd] at q2
        have HE : Hid (false = res) := Hid.mk (by
          rw [HR.out]
          have : xs.all (fun x => G.dn x) = false := by
            rw [Bool.eq_false_iff]
            intro hall
            have := List.all_eq_true.1 hall (xs.getD k 0) (by rw [List.getD, List.getElem?_eq_getElem HKL.out.2]; exact List.getElem_mem _)
            rw [hy, hd] at this
            cases this
          rw [this]
          rfl)
        clear hca f4 f5 f6 hy hyn HK hd HT HA
        go_wp2
        go_quiet (fail)
        go_wp2
        go_ret
        exact ⟨congrArg (fun b => Ending.returned (.bool b)) HE.out, HBX.out _⟩
    · have HE : Hid ((!dn) = res) := Hid.mk (by
        rw [HR.out]
        have := HK.out.2.2
        rw [List.take_of_length_le (by have := HL.out; omega)] at this
        rw [this]
        rfl)
      have HB9 := Hid.mk f6
      clear HK f4 f5 f6
      go_wp2
      go_ret
      exact ⟨congrArg (fun b => Ending.returned (.bool b)) HE.out, HB9.out⟩
theorem cnt_take (G : Gp) (k : Nat) : ((List.range (k + 1)).filter (fun j => !G.dn ((j : Nat) : Int))).length = ((List.range k).filter (fun j => !G.dn ((j : Nat) : Int))).length + (if G.dn (k : Nat) then 0 else 1) := by
  rw [List.range_succ, List.filter_append, List.length_append]
  cases hd : G.dn ((k : Nat) : Int) <;> simp [hd]
theorem cnt_lek (G : Gp) (k : Nat) : ((List.range k).filter (fun j => !G.dn ((j : Nat) : Int))).length ≤ k := by
  have := List.length_filter_le (fun j : Nat => !G.dn ((j : Nat) : Int)) (List.range k)
  rw [List.length_range] at this
  exact this
set_option maxRecDepth 100000 in
set_option maxHeartbeats 4000000 in
theorem rleft_any (h : RgAt F w r v G) : Calls Try.prog 14 #[ptV r] w fun e w' => e = .returned (.int .i64 (cnt G : Nat)) ∧ w' = w := by
  obtain ⟨ao, cap, rfl, hn⟩ := h.slice
  have c0 := h.cell
  obtain ⟨n, hnn⟩ : ∃ n, n = G.n := ⟨_, rfl⟩
  have HA : Hid (0 < n → ∃ gb, ao = some ⟨gb, 0, none⟩ ∧ ∀ j : Nat, j < n → w.cell? ⟨gb, j * 3 + 2, none⟩ = some (.bool (G.dn j))) := Hid.mk (fun h0 => by
    obtain ⟨gb, cap', e, _, _, _, _, hc⟩ := h.at' (by omega)
    cases e
    exact ⟨gb, rfl, fun j hj => (hc j (by omega)).2.2⟩)
  rw [← hnn] at c0 hn
  have HR : Hid (cnt G = ((List.range n).filter (fun j => !G.dn ((j : Nat) : Int))).length) := Hid.mk (by rw [hnn]; rfl)
  obtain ⟨res, hres⟩ : ∃ res, res = cnt G := ⟨_, rfl⟩
  rw [← hres] at HR ⊢
  clear h hnn hres
  go_enter Try.func14, Try.ntmps14
  go_wp2
  go_loopw [3, 4] (fun sv kv wr => ∃ k s : Nat, kv = .int .i64 k ∧ sv = .int .i64 s ∧ Hid (wr = w ∧ k ≤ n ∧ s = ((List.range k).filter (fun j => !G.dn ((j : Nat) : Int))).length)) (fun _ kv _ => n - (Go.RowKit.intOf kv).toNat)
  case atStart => exact ⟨0, 0, rfl, rfl, Hid.mk ⟨rfl, Nat.zero_le _, rfl⟩⟩
  case round =>
    obtain ⟨k, s, rfl, rfl, HK⟩ := hrel
    obtain ⟨ew, hk1, hk2⟩ := HK.out
    subst ew
    have HS := Hid.mk hk2
    have HKN : Hid (k ≤ n) := Hid.mk hk1
    have HSL : Hid (s ≤ k) := Hid.mk (by rw [hk2]; exact cnt_lek G k)
    clear HK hk1 hk2
    by_cases hkl : (k : Int) < (n : Int)
    · have v1 : IntKind.i64.wrap ((k : Int) + 1) = ((k + 1 : Nat) : Int) := by rw [IntKind.wrap_i64]; omega
      have v2 : IntKind.i64.wrap ((s : Int) + 1) = ((s + 1 : Nat) : Int) := by have := HSL.out; rw [IntKind.wrap_i64]; omega
      have HKL : Hid (k < n) := Hid.mk (by omega)
      obtain ⟨gb, rfl, hc⟩ := HA.out (by omega)
      have q1 := hc k HKL.out
      have k0 : (0 : Int) ≤ ((k : Nat) : Int) := by omega
      have e9 : (⟨gb, 0, none⟩ : Addr).add (k * 3) = ⟨gb, k * 3, none⟩ := by rw [add_at]; simp
      have HT := Hid.mk (cnt_take G k)
      cases hd : G.dn (k : Nat) with
      | true =>
        rw [hd] at q1
        have HT2 : Hid (s = ((List.range (k + 1)).filter (fun j => !G.dn ((j : Nat) : Int))).length) := Hid.mk (by rw [HT.out, ← HS.out, hd]; rfl)
        clear hc hd HT
        go_wp2
        go_roundw
        case rel => exact ⟨k + 1, s, rfl, rfl, Hid.mk ⟨trivial, HKL.out, HT2.out⟩⟩
        case measure => (have := HKL.out; simp [Go.RowKit.intOf]; omega)
      | false =>
        rw [hd] at q1
        have HT2 : Hid (s + 1 = ((List.range (k + 1)).filter (fun j => !G.dn ((j : Nat) : Int))).length) := Hid.mk (by rw [HT.out, ← HS.out, hd]; rfl)
        clear hc hd HT
        go_wp2
        go_roundw
        case rel => exact ⟨k + 1, s + 1, rfl, rfl, Hid.mk ⟨trivial, HKL.out, HT2.out⟩⟩
        case measure => (have := HKL.out; simp [Go.RowKit.intOf]; omega)
    · have HE : Hid (s = res) := Hid.mk (by
        rw [HR.out, HS.out]
        have := HKN.out
        rw [show k = n by omega])
      go_wp2
      go_ret
      exact ⟨congrArg (fun b : Nat => Ending.returned (.int .i64 (b : Nat))) HE.out, rfl⟩
end
end Go.Proofs.Ythmbhcmicebcpaa
namespace Go.Proofs.Ythmbhcmicebcpaa
open Go Go.Proofs Go.RowKit Go.Shelf
attribute [local go_sem] Oper.semAt_some
/-- The numbers below k that p takes. -/
def pick (p : Nat → Bool) (k : Nat) : List Int := ((List.range k).filter p).map (fun j : Nat => (j : Int))
theorem pick_succ (p : Nat → Bool) (k : Nat) : pick p (k + 1) = if p k then pick p k ++ [(k : Int)] else pick p k := by
  unfold pick
  rw [List.range_succ, List.filter_append, List.map_append]
  by_cases h : p k = true
  · simp [h]
  · simp [h]
theorem pick_len (p : Nat → Bool) (k : Nat) : (pick p k).length ≤ k := by
  unfold pick
  have := List.length_filter_le p (List.range k)
  rw [List.length_range] at this
  rw [List.length_map]
  exact this
theorem pick_mem {p : Nat → Bool} {k : Nat} {x : Int} : x ∈ pick p k ↔ ∃ j : Nat, x = (j : Int) ∧ j < k ∧ p j = true := by
  unfold pick
  simp only [List.mem_map, List.mem_filter, List.mem_range]
  exact ⟨fun ⟨j, h, e⟩ => ⟨j, e.symm, h.1, h.2⟩, fun ⟨j, e, h⟩ => ⟨j, h, e.symm⟩⟩
theorem pick_pw (p : Nat → Bool) (k : Nat) : (pick p k).Pairwise (· < ·) := by
  induction k with
  | zero => exact List.Pairwise.nil
  | succ k ih =>
    rw [pick_succ]
    split
    · refine List.pairwise_append.2 ⟨ih, List.pairwise_singleton _ _, fun a ha b hb => ?_⟩
      obtain ⟨j, rfl, hj, _⟩ := pick_mem.1 ha
      rw [List.mem_singleton.1 hb]
      omega
    · exact ih
def nxB (G : Gp) (b : Int) (j : Nat) : Bool := decide (G.buf j = b) && mayB G j
theorem nx_same {G : Gp} {A : Ga} (h : Rel G A) (hG : G.Ok) (b : Int) : pick (nxB G b) G.n = nxL A b := by
  obtain ⟨p1, p2⟩ := nx_pw h b
  refine rise_ext (pick_pw _ _) p1 (fun x => ?_)
  rw [pick_mem, p2 x]
  constructor
  · rintro ⟨j, rfl, hj, q⟩
    unfold nxB at q
    rw [Bool.and_eq_true, decide_eq_true_eq] at q
    exact ⟨(may_iff hG ⟨by omega, by omega⟩).1 q.2, q.1⟩
  · rintro ⟨q1, q2⟩
    have hx := q1.1.1
    refine ⟨x.toNat, by omega, by omega, ?_⟩
    unfold nxB
    rw [show ((x.toNat : Nat) : Int) = x by omega, Bool.and_eq_true, decide_eq_true_eq]
    exact ⟨q2, (may_iff hG hx).2 q1⟩
theorem owns_lt {W : World} {B : Nat} {e : TypeId} {z n : Nat} {v : Value} {xs : List Value} (h : W.ownsRow B e z v n xs) {k : Nat} (hk : v.ownBlock = some k) : k < W.heap.size := by
  rcases h.2 with ⟨rfl, _⟩ | ⟨g, cap, cur, rfl, _, hg, _⟩
  · cases hk
  · cases hk; exact lt_of_block hg
theorem own_nil0 (w : World) (B : Nat) : w.ownsRow B 3 1 (.slice none 0 0) ([] : List Int).length (Iy []) := ⟨rfl, .inl ⟨rfl, rfl⟩⟩
section
variable {F : Nat → Prop} {w : World} {r : Nat} {v : Value} {G : Gp}
set_option maxRecDepth 100000 in
set_option maxHeartbeats 4000000 in
theorem rnext_any (h : RgAt F w r v G) (hG : G.Ok) (hn : G.n ≤ 1000000) (b : Int) : Calls Try.prog 17 #[ptV r, .int .i64 b] w fun e w' => ∃ u, e = .returned u ∧ Hid (w'.ownsRow w.heap.size 3 1 u (pick (nxB G b) G.n).length (Iy (pick (nxB G b) G.n)) ∧ Below w.heap.size w w') := by
  obtain ⟨ao, cap, rfl, _⟩ := h.slice
  obtain ⟨n, hnn⟩ : ∃ n, n = G.n := ⟨_, rfl⟩
  have HF : Hid (∀ W, Below w.heap.size w W → W.cell? ⟨r, 0, none⟩ = some (.slice ao n cap) ∧ (∀ j : Nat, j < n → (∃ gb, ao = some ⟨gb, 0, none⟩ ∧ W.cell? ⟨gb, j * 3, none⟩ = some (.int .i64 (G.buf j))) ∧ Calls Try.prog 34 #[ptV r, .int .i64 (j : Nat)] W fun e w' => e = .returned (.bool (mayB G j)) ∧ Below W.heap.size W w')) := Hid.mk (fun W hB => by
    have h2 := h.below hB
    rw [hnn]
    refine ⟨h2.cell, fun j hj => ⟨?_, rmay_any h2 hG j hj⟩⟩
    obtain ⟨gb, cap', e, _, _, _, _, hc⟩ := h2.at' (by omega)
    cases e
    exact ⟨gb, rfl, (hc j hj).1⟩)
  rw [← hnn] at hn ⊢
  obtain ⟨p, hp⟩ : ∃ p, p = nxB G b := ⟨_, rfl⟩
  rw [← hp]
  have HP : Hid (∀ j : Nat, p j = (decide (G.buf j = b) && mayB G j)) := Hid.mk (fun j => by rw [hp]; rfl)
  have HN := Hid.mk hn
  clear h hG hnn hp hn
  go_enter Try.func17, Try.ntmps17
  go_wp2
  go_loopw [5, 6, 7] (fun ov kv _ wr => ∃ k : Nat, kv = .int .i64 k ∧ Hid (k ≤ n ∧ wr.ownsRow w.heap.size 3 1 ov (pick p k).length (Iy (pick p k)) ∧ Below w.heap.size w wr)) (fun _ kv _ _ => n - (Go.RowKit.intOf kv).toNat)
  case atStart => exact ⟨0, rfl, Hid.mk ⟨Nat.zero_le _, own_nil0 _ _, Below.refl _ _⟩⟩
  case round =>
    obtain ⟨k, rfl, HK⟩ := hrel
    obtain ⟨f1, f2⟩ := HF.out wr HK.out.2.2
    by_cases hkl : (k : Int) < (n : Int)
    · have v1 : IntKind.i64.wrap ((k : Int) + 1) = ((k + 1 : Nat) : Int) := by have := HN.out; rw [IntKind.wrap_i64]; omega
      have HKL : Hid (k < n) := Hid.mk (by omega)
      obtain ⟨⟨gb, rfl, q1⟩, hM⟩ := f2 k HKL.out
      have HM := Hid.mk hM
      have k0 : (0 : Int) ≤ ((k : Nat) : Int) := by omega
      have e9 : (⟨gb, 0, none⟩ : Addr).add (k * 3) = ⟨gb, k * 3, none⟩ := by rw [add_at]; simp
      have HT := Hid.mk (pick_succ p k)
      obtain ⟨bk, hbk⟩ : ∃ bk, bk = G.buf k := ⟨_, rfl⟩
      rw [← hbk] at q1
      by_cases hb : bk = b
      · subst hb
        cases hm : mayB G k with
        | false =>
          have HT2 : Hid (pick p (k + 1) = pick p k) := Hid.mk (by rw [HT.out, HP.out, hm]; simp)
          rw [hm] at HM
          clear hM f2 hm HT hbk
          go_wp2_with (first
            | (go_at_call 34; refine HM.out.mono ?_; rintro e w1 ⟨rfl, hb1⟩; have HB1 := Hid.mk hb1; clear hb1 HM)
            | go_in)
          go_roundw
          case rel => exact ⟨k + 1, rfl, Hid.mk ⟨HKL.out, by rw [HT2.out]; exact own_same HK.out.2.1 (fun g hg => HB1.out.block g (owns_lt HK.out.2.1 hg)), HK.out.2.2.trans (HB1.out.mono HK.out.2.2.size)⟩⟩
          case measure => (have := HKL.out; simp [Go.RowKit.intOf]; omega)
        | true =>
          have HT2 : Hid (pick p (k + 1) = pick p k ++ [(k : Int)]) := Hid.mk (by rw [HT.out, HP.out, hm, ← hbk]; simp)
          rw [hm] at HM
          have HAP : Hid (∀ w1, Below wr.heap.size wr w1 → ∃ v' W', (Builtin.append_ #[23, 23] 23 #[u5, .slice (some ⟨w1.heap.size, 0, none⟩) 1 1]).run Try.prog (w1.alloc (.cells #[.int .i64 (k : Int)] 3)) = .ok v' W' ∧ Hid (W'.ownsRow w.heap.size 3 1 v' (pick p (k + 1)).length (Iy (pick p (k + 1))) ∧ Below w.heap.size w W')) := Hid.mk (fun w1 hB1 => by
            have hs := HK.out.2.2.size
            obtain ⟨v', W', a1, a2, a3⟩ := appendi_one w1 w.heap.size u5 (pick p k).length (pick p k) (own_same HK.out.2.1 (fun g hg => hB1.block g (owns_lt HK.out.2.1 hg))) (Nat.le_trans hs hB1.size) (k : Int) (by have := pick_len p k; have := HKL.out; have := HN.out; omega)
            refine ⟨v', W', a1, Hid.mk ⟨by rw [HT2.out, List.length_append]; exact a2, (HK.out.2.2.trans (hB1.mono hs)).trans a3⟩⟩)
          clear hM f2 hm HT hbk HK
          go_wp2_with (first
            | (go_at_call 34; refine HM.out.mono ?_; rintro e w1 ⟨rfl, hb1⟩; obtain ⟨v', W', a1, HW'⟩ := HAP.out w1 hb1; have HA1 := Hid.mk a1; clear hb1 HM a1)
            | (at_builtin; refine wpList_append_known rfl _ _ _ rfl _ _ _ _ rfl rfl HA1.out ?_; simp only [Act.put, List.setIfInBounds_toArray, List.set_cons_zero, List.set_cons_succ])
            | go_in)
          go_roundw
          case rel => exact ⟨k + 1, rfl, Hid.mk ⟨HKL.out, HW'.out⟩⟩
          case measure => (have := HKL.out; simp [Go.RowKit.intOf]; omega)
      · have hb1 : (bk == b) = false := beq_eq_false_iff_ne.2 hb
        have HT2 : Hid (pick p (k + 1) = pick p k) := Hid.mk (by rw [HT.out, HP.out, ← hbk]; simp [hb])
        clear hM f2 HT hbk HM
        go_wp2
        go_roundw
        case rel => exact ⟨k + 1, rfl, Hid.mk ⟨HKL.out, by rw [HT2.out]; exact HK.out.2⟩⟩
        case measure => (have := HKL.out; simp [Go.RowKit.intOf]; omega)
    · have HE : Hid (wr.ownsRow w.heap.size 3 1 u5 (pick p n).length (Iy (pick p n)) ∧ Below w.heap.size w wr) := Hid.mk (by
        have := HK.out
        rw [show k = n by omega] at this
        exact this.2)
      clear HK f2
      go_wp2
      go_ret
      exact ⟨_, rfl, HE⟩
end
end Go.Proofs.Ythmbhcmicebcpaa
namespace Go.Proofs.Ythmbhcmicebcpaa
open Go Go.Proofs Go.RowKit Go.Shelf
attribute [local go_sem] Oper.semAt_some
theorem drew_below (w : World) : Below w.heap.size w w.drew := ⟨rfl, rfl, rfl, Nat.le_refl _, fun _ _ => rfl⟩
theorem Ry_set (L : List Rc) {j : Nat} (hj : j < L.length) (d : Bool) : Ry (L.set j { L.getD j Rc.zero with dn := d }) = (Ry L).set (j * 3 + 2) (.bool d) := by
  induction L generalizing j with
  | nil => simp at hj
  | cons c r ih =>
    cases j with
    | zero => rfl
    | succ j =>
      have := ih (j := j) (by simpa using hj)
      show Ry (c :: r.set j { r.getD j Rc.zero with dn := d }) = (rcC c ++ Ry r).set ((j + 1) * 3 + 2) (.bool d)
      have hl : (rcC c).length = 3 := rfl
      rw [List.set_append_right _ _ (by omega), hl, show (j + 1) * 3 + 2 - 3 = j * 3 + 2 by omega, ← this]
      rfl
theorem own_set {W : World} {B g n cap i z : Nat} {e : TypeId} {xs : List Value} (h : W.ownsRow B e z (.slice (some ⟨g, 0, none⟩) n cap) n xs) (u : Value) : (W.setCell ⟨g, i, none⟩ u).ownsRow B e z (.slice (some ⟨g, 0, none⟩) n cap) n (xs.set i u) := by
  refine ⟨by rw [List.length_set]; exact h.1, ?_⟩
  rcases h.2 with ⟨q, _⟩ | ⟨g', cap', cur, q, h1, hg, h2, h3, h4, h5⟩
  · cases q
  · cases q
    refine .inr ⟨g, cap, _, rfl, h1, blk_set hg, h2, h3, by rw [Array.size_setIfInBounds]; exact h4, ?_⟩
    rw [Array.toList_setIfInBounds, List.take_set, h5]
section
variable {F : Nat → Prop} {W w : World} {r : Nat} {v : Value} {G : Gp}
theorem RgAt.done {gb cap : Nat} (h : RgAt F W r (.slice (some ⟨gb, 0, none⟩) G.n cap) G) {j : Nat} (hj : j < G.n) : RgAt F (W.setCell ⟨gb, j * 3 + 2, none⟩ (.bool true)) r (.slice (some ⟨gb, 0, none⟩) G.n cap) (G.fin j) := by
  obtain ⟨L, h1, h2, h3⟩ := h.row
  have hne := (h.fv gb rfl).2
  have hs : W.heap.size ≤ (W.setCell ⟨gb, j * 3 + 2, none⟩ (.bool true)).heap.size := by simp
  refine ⟨(Below.heap_setCell _ _ _ _ (fun e => hne e.symm)).trans h.top, h.fr, h.fv, L.set j { L.getD j Rc.zero with dn := true }, by rw [List.length_set]; exact h1, ?_, fun i hi => ?_⟩
  · rw [Ry_set L (by omega), List.length_set, ← h1]
    rw [← h1] at h2
    exact own_set h2 _
  · rw [List.length_set] at hi
    obtain ⟨a1, a2, a3⟩ := h3 i hi
    have a3' := a3.keep hs (fun k q1 q2 q3 q4 => Below.heap_setCell _ _ _ _ (fun e => q4 (by rw [e]; rfl)))
    have eg : ∀ x, (L.set j { L.getD j Rc.zero with dn := true }).getD i x = if i = j then { L.getD j Rc.zero with dn := true } else L.getD i x := fun x => by
      rw [List.getD, List.getElem?_set]
      by_cases e : j = i
      · subst e
        simp [hi]
      · rw [if_neg e, if_neg (fun q => e q.symm)]
        rfl
    rw [eg]
    by_cases e : i = j
    · subst e
      rw [if_pos rfl]
      exact ⟨a1, if_pos rfl, a3'⟩
    · rw [if_neg e]
      refine ⟨a1, ?_, a3'⟩
      rw [← a2]
      exact if_neg (by omega)
theorem fins_snoc (G : Gp) (S : List Int) (x : Int) : G.fins (S ++ [x]) = (G.fins S).fin x := by unfold Gp.fins; rw [List.foldl_append]; rfl
theorem take_snocG {S : List Int} {k : Nat} (hk : k < S.length) : S.take (k + 1) = S.take k ++ [S.getD k 0] := by
  rw [List.take_add_one, List.getElem?_eq_getElem hk]
  simp [List.getD, List.getElem?_eq_getElem hk]
set_option maxRecDepth 100000 in
set_option maxHeartbeats 4000000 in
theorem rwritten_any (h : RgAt F w r v G) (hG : G.Ok) (hn : G.n ≤ 1000000) (hF : ∀ k, F k → k < w.heap.size) (b : Int) : Calls Try.prog 31 #[ptV r, .int .i64 b] w fun e w' => ∃ u, e = .returned u ∧ Hid (w'.ownsRow w.heap.size 3 1 u (pick (nxB G b) G.n).length (Iy (pick (nxB G b) G.n)) ∧ RgAt F w' r v (G.fins (pick (nxB G b) G.n)) ∧ Only F w w') := by
  have HNX := Hid.mk (rnext_any h hG hn b)
  obtain ⟨S, hS⟩ : ∃ S, S = pick (nxB G b) G.n := ⟨_, rfl⟩
  obtain ⟨m, hm⟩ : ∃ m, m = S.length := ⟨_, rfl⟩
  have HSM : Hid (∀ x ∈ S, ∃ j : Nat, x = (j : Int) ∧ j < G.n) := Hid.mk (fun x hx => by
    rw [hS] at hx
    obtain ⟨j, e, hj, _⟩ := pick_mem.1 hx
    exact ⟨j, e, hj⟩)
  have HSL : Hid (m ≤ G.n) := Hid.mk (by rw [hm, hS]; exact pick_len _ _)
  rw [← hS, ← hm] at HNX
  rw [← hS, ← hm]
  have HM := Hid.mk hm
  have HN := Hid.mk hn
  have HH := Hid.mk h
  clear hS hm hn h hG
  go_enter Try.func31, Try.ntmps31
  go_wp2_with (first
    | (go_at_call 17; refine HNX.out.mono ?_; rintro e w1 ⟨u, rfl, H1⟩; clear HNX)
    | go_in)
  obtain ⟨au, cu, rfl, _⟩ := owns_lat H1.out.1
  go_loopw [6] (fun kv wr => ∃ k : Nat, kv = .int .i64 k ∧ Hid (k ≤ m ∧ wr.ownsRow w.heap.size 3 1 (.slice au m cu) m (Iy S) ∧ RgAt F wr r v (G.fins (S.take k)) ∧ Only F w wr)) (fun kv _ => m - (Go.RowKit.intOf kv).toNat)
  case atStart => exact ⟨0, rfl, Hid.mk ⟨Nat.zero_le _, H1.out.1, HH.out.below H1.out.2, Only.of_new F H1.out.2⟩⟩
  case round =>
    obtain ⟨k, rfl, HK⟩ := hrel
    clear H1
    by_cases hkl : (k : Int) < (m : Int)
    · have v1 : IntKind.i64.wrap ((k : Int) + 1) = ((k + 1 : Nat) : Int) := by have := HN.out; have := HSL.out; rw [IntKind.wrap_i64]; omega
      have HKL : Hid (k < m ∧ k < S.length) := Hid.mk (by have := HM.out; omega)
      obtain ⟨gu, cu', e, hcap, hgu, hgl, hla, hcu⟩ := owns_ints HK.out.2.1 (by omega)
      cases e
      obtain ⟨y, hy, hyn⟩ := HSM.out (S.getD k 0) (by rw [List.getD, List.getElem?_eq_getElem HKL.out.2]; exact List.getElem_mem _)
      obtain ⟨e1, _, _⟩ := fins_same (S.take k) (G := G)
      obtain ⟨n, hnn⟩ : ∃ n, n = (G.fins (S.take k)).n := ⟨_, rfl⟩
      have hyn' : y < n := by rw [hnn, e1]; exact hyn
      obtain ⟨gb, cap, rfl, hne, hFb, hgbl, hfz, hcc⟩ := HK.out.2.2.1.at' (by omega)
      rw [← hnn] at HK
      have hgg : gb ≠ gu := fun e => by have := hF gb hFb; have := HK.out.2.1; omega
      have q1 := hcu k HKL.out.1
      rw [hy] at q1
      have c0 := HK.out.2.2.1.cell
      have d3 := (hcc y (by omega)).2.2
      have HTK := Hid.mk (take_snocG HKL.out.2)
      rw [hy] at HTK
      have y1 : ((y : Nat) : Int) < (n : Int) := by omega
      have y0 : (0 : Int) ≤ ((y : Nat) : Int) := by omega
      have k0 : (0 : Int) ≤ ((k : Nat) : Int) := by omega
      have e8 : (⟨gu, 0, none⟩ : Addr).add (k * 1) = ⟨gu, k, none⟩ := by rw [add_at]; simp
      have e8' : (⟨gu, 0, none⟩ : Addr).add k = ⟨gu, k, none⟩ := by rw [add_at]; simp
      have e9 : (⟨gb, 0, none⟩ : Addr).add (y * 3) = ⟨gb, y * 3, none⟩ := by rw [add_at]; simp
      have hrg : RgAt F wr.drew r (.slice (some ⟨gb, 0, none⟩) n cap) (G.fins (S.take k)) := HK.out.2.2.1.below (drew_below wr)
      have hH : (fun W : World => W.cell? ⟨r, 0, none⟩ = some (.slice (some ⟨gb, 0, none⟩) n cap) ∧ W.cell? ⟨gu, k, none⟩ = some (.int .i64 (y : Nat))) wr.drew := ⟨c0, q1⟩
      have HS1 : Hid ((fun W : World => W.cell? ⟨r, 0, none⟩ = some (.slice (some ⟨gb, 0, none⟩) n cap) ∧ W.cell? ⟨gu, k, none⟩ = some (.int .i64 (y : Nat))) (wr.drew.setCell ⟨gb, y * 3 + 2, none⟩ (.bool true))) := Hid.mk ⟨by
          rw [World.cell?_of_block (w := wr.drew) (Below.heap_setCell _ _ _ _ (fun e => hne e.symm))]
          exact c0, by
          rw [World.cell?_of_block (w := wr.drew) (Below.heap_setCell _ _ _ _ (fun e => hgg e.symm))]
          exact q1⟩
      have d3' : wr.drew.cell? ⟨gb, y * 3 + 2, none⟩ = some (.bool ((G.fins (S.take k)).dn y)) := d3
      have f3 : wr.drew.frozen? ⟨gb, y * 3 + 2, none⟩ = false := hfz _
      have HNX : Hid ((wr.drew.setCell ⟨gb, y * 3 + 2, none⟩ (.bool true)).ownsRow w.heap.size 3 1 (.slice (some ⟨gu, 0, none⟩) m cu) m (Iy S) ∧ RgAt F (wr.drew.setCell ⟨gb, y * 3 + 2, none⟩ (.bool true)) r (.slice (some ⟨gb, 0, none⟩) n cap) (G.fins (S.take (k + 1))) ∧ Only F w (wr.drew.setCell ⟨gb, y * 3 + 2, none⟩ (.bool true))) := Hid.mk ⟨own_same HK.out.2.1 (fun g hg => by cases hg; exact Below.heap_setCell _ _ _ _ (fun e => hgg e.symm)), by
          rw [HTK.out, fins_snoc]
          have := RgAt.done (gb := gb) (cap := cap) (j := y) (by rw [← hnn]; exact hrg) (by omega)
          rw [← hnn] at this
          exact this, (HK.out.2.2.2.drew).setCell (p := ⟨gb, y * 3 + 2, none⟩) (.inl hFb) _⟩
      have HNN := Hid.mk hnn
      clear hcu hla hcc hrg HK HTK hnn hyn hy e1 c0 d3 hfz hgl q1 hcap hgu
      go_wp2
      refine wp_region_held_drew (S := fun W : World => W.cell? ⟨r, 0, none⟩ = some (.slice (some ⟨gb, 0, none⟩) n cap) ∧ W.cell? ⟨gu, k, none⟩ = some (.int .i64 (y : Nat))) (by kernel_rfl) hH (fun hH => ?_)
      change wpAnyH Try.prog Region.Mode.any _ _ _ 11 _ _ _
      refine takeH 0 16 (.pointer (some ⟨r, 0, none⟩)) rfl (by kernel_rfl) (by kernel_rfl) (by kernel_rfl) (by kernel_rfl) (fun _ _ _ h => h) (by kernel_rfl) (fun w hw => by kernel_rfl) hH ?_
      simp only [List.setIfInBounds_toArray, List.set_cons_zero, List.set_cons_succ]
      refine takeH 1 17 (.pointer (some ⟨r, 0, none⟩)) rfl (by kernel_rfl) (by kernel_rfl) (by kernel_rfl) (by kernel_rfl) (fun _ _ _ h => h) (by kernel_rfl) (fun w hw => by go_simp) hH ?_
      simp only [List.setIfInBounds_toArray, List.set_cons_zero, List.set_cons_succ]
      refine takeH 2 18 (.pointer (some ⟨r, 0, none⟩)) rfl (by kernel_rfl) (by kernel_rfl) (by kernel_rfl) (by kernel_rfl) (fun _ _ _ h => h) (by kernel_rfl) (fun w hw => by go_simp) hH ?_
      simp only [List.setIfInBounds_toArray, List.set_cons_zero, List.set_cons_succ]
      refine takeH 3 19 (.slice (some ⟨gb, 0, none⟩) n cap) rfl (by kernel_rfl) (by kernel_rfl) (by kernel_rfl) (by kernel_rfl) (fun _ _ _ h => h) (by kernel_rfl) (fun w hw => by (try dsimp only at hw); obtain ⟨hw1, hw2⟩ := hw; go_simp) hH ?_
      simp only [List.setIfInBounds_toArray, List.set_cons_zero, List.set_cons_succ]
      refine takeH 4 20 (.slice (some ⟨gu, 0, none⟩) m cu) rfl (by kernel_rfl) (by kernel_rfl) (by kernel_rfl) (by kernel_rfl) (fun _ _ _ h => h) (by kernel_rfl) (fun w hw => by kernel_rfl) hH ?_
      simp only [List.setIfInBounds_toArray, List.set_cons_zero, List.set_cons_succ]
      refine takeH 5 21 (.int .i64 k) rfl (by kernel_rfl) (by kernel_rfl) (by kernel_rfl) (by kernel_rfl) (fun _ _ _ h => h) (by kernel_rfl) (fun w hw => by kernel_rfl) hH ?_
      simp only [List.setIfInBounds_toArray, List.set_cons_zero, List.set_cons_succ]
      refine takeH 6 22 (.pointer (some ⟨gu, k, none⟩)) rfl (by kernel_rfl) (by kernel_rfl) (by kernel_rfl) (by kernel_rfl) (fun _ _ _ h => h) (by kernel_rfl) (fun w hw => by go_simp) hH ?_
      simp only [List.setIfInBounds_toArray, List.set_cons_zero, List.set_cons_succ]
      refine takeH 7 23 (.int .i64 (y : Nat)) rfl (by kernel_rfl) (by kernel_rfl) (by kernel_rfl) (by kernel_rfl) (fun _ _ _ h => h) (by kernel_rfl) (fun w hw => by (try dsimp only at hw); obtain ⟨hw1, hw2⟩ := hw; go_simp) hH ?_
      simp only [List.setIfInBounds_toArray, List.set_cons_zero, List.set_cons_succ]
      refine takeH 8 24 (.pointer (some ⟨gb, y * 3, none⟩)) rfl (by kernel_rfl) (by kernel_rfl) (by kernel_rfl) (by kernel_rfl) (fun _ _ _ h => h) (by kernel_rfl) (fun w hw => by go_simp) hH ?_
      simp only [List.setIfInBounds_toArray, List.set_cons_zero, List.set_cons_succ]
      refine takeH 9 25 (.pointer (some ⟨gb, y * 3 + 2, none⟩)) rfl (by kernel_rfl) (by kernel_rfl) (by kernel_rfl) (by kernel_rfl) (fun _ _ _ h => h) (by kernel_rfl) (fun w hw => by go_simp) hH ?_
      simp only [List.setIfInBounds_toArray, List.set_cons_zero, List.set_cons_succ]
      refine stepH_one 10 (by kernel_rfl) ?_
      refine opH_store 10 (wr.drew.setCell ⟨gb, y * 3 + 2, none⟩ (.bool true)) rfl (by kernel_rfl) (by kernel_rfl) (by go_simp) HS1.out ?_
      refine wpAnyH_done (by kernel_rfl) ?_ _
      go_wp2
      go_roundw
      case rel => exact ⟨k + 1, rfl, Hid.mk ⟨HKL.out.1, by rw [← HNN.out]; exact HNX.out⟩⟩
      case measure => (have := HKL.out.1; simp [Go.RowKit.intOf]; omega)
    · have HE : Hid (wr.ownsRow w.heap.size 3 1 (.slice au m cu) m (Iy S) ∧ RgAt F wr r v (G.fins S) ∧ Only F w wr) := Hid.mk (by
        have := HK.out
        rw [List.take_of_length_le (by have := HM.out; omega)] at this
        exact this.2)
      clear HK
      go_wp2
      go_ret
      exact ⟨_, rfl, HE⟩
end
end Go.Proofs.Ythmbhcmicebcpaa
