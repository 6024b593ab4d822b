/-
  A tree of one's own and a row of bytes beside it; what the calls of TreeWrites make of them.
-/
import Derived.Test.YtehaoeclnmelhacGreatTrAlive
import Derived.Test.YtehaoeclnmelhacGreatTrWsL
import Derived.Test.YtehaoeclnmelhacGreatTrRdDo
import Derived.Test.YtehaoeclnmelhacGreatTrNo
import Derived.Deep.AppendLies
import Derived.Laws.OwnMore
namespace Go.Proofs.YtehaoeclnmelhacGreat
open Go Go.Proofs Go.RowKit Go.Shelf Go.Sort
/-- copy into a row of one's own. -/
theorem copy_own (W : World) (B g n cap o m c : Nat) (xs ys : List Int) (ao : Option Addr) (hown : W.ownsRow B 5 1 (.slice (some ⟨g, 0, none⟩) n cap) n (By xs)) (hb : BAt W ao m ys) (hm : 0 < m) (ho : o + m ≤ n) :
    ∃ W', (Builtin.copy_ #[28, 28] 3 #[.slice (some ⟨g, o, none⟩) (n - o) (cap - o), .slice ao m c]).run Tryz.prog W = .ok (.int .i64 m) W' ∧ W'.ownsRow B 5 1 (.slice (some ⟨g, 0, none⟩) n cap) n (By (splice xs o ys)) ∧ Only (fun k => k = g) W W' := by
  obtain ⟨i0, hi, hz0, hz1, hz2⟩ := info5p
  obtain ⟨a, rfl, -, hcell⟩ := hb.2 hm
  obtain ⟨h1, h2⟩ := hown
  rcases h2 with h2 | ⟨g', cap', cur, hv, hg, hh, hnc, hmx, hsz, ht⟩
  · simp at h2
  · simp only [Value.slice.injEq, Option.some.injEq, Addr.mk.injEq] at hv
    obtain ⟨⟨rfl, -, -⟩, -, rfl⟩ := hv
    have hyl := hb.1
    have hxl : xs.length = n := by rw [By_length] at h1; omega
    have hmin : Nat.min m (n - o) = m := Nat.min_eq_left (by omega)
    have hcl0 : (By ys).length = m := by rw [By_length, hyl]
    have hcl : (By ys).length = Nat.min m (n - o) := by rw [hmin, hcl0]
    have hr := run_copy_row (P := Tryz.prog) W 28 28 3 5 g o (n - o) (cap - o) a m c cur 5 (By ys) Tryz.underlying28 (by rw [hi]; simp [hz1]) hh hcl (fun j u hj => by
      have hjl := (List.getElem?_eq_some_iff.1 hj).1
      rw [By_length] at hjl
      rw [By_get _ j hjl] at hj
      rw [hcell j (by omega)]
      exact hj) (by rw [hcl0]; omega) (By_one _)
    rw [hcl0] at hr
    refine ⟨W.setRow g (cur.toList.take o ++ By ys ++ cur.toList.drop (o + m)).toArray, hr, ⟨?_, .inr ⟨g, cap, _, rfl, hg, setRow_heap W g _ _ 5 _ hh, hnc, hmx, ?_, ?_⟩⟩, (Only.refl (fun k => k = g) W).setRow (.inl rfl) _⟩
    · rw [By_length, length_splice _ _ _ (by omega), hxl, Nat.mul_one]
    · simp [hcl0]
      omega
    · rw [Nat.mul_one] at ht ⊢
      have e1 : cur.toList.take o = (By xs).take o := by rw [← ht, List.take_take, Nat.min_eq_left (by omega)]
      have e2 : (cur.toList.drop (o + m)).take (n - (o + m)) = (By xs).drop (o + m) := by rw [← ht, List.drop_take]
      have e3 : ((By xs).take o).length = o := by rw [List.length_take, h1]; omega
      have e4 : n - o - m = n - (o + m) := by omega
      rw [e1, List.append_assoc, List.take_append, e3, List.take_of_length_le (by rw [e3]; omega), List.take_append, hcl0, List.take_of_length_le (l := By ys) (by rw [hcl0]; omega), e4, e2]
      unfold splice
      simp [By, hyl]
/-- A tree and a row of bytes lie apart, made since w; the blocks of B beside them. -/
structure WsW (w W : World) (t : Nat) (σ : Tr) (v : Value) (xs : List Int) (B : Nat → Prop) : Prop where
  row : W.ownsRow w.heap.size 5 1 v xs.length (By xs)
  own : OwnT w W t σ (fun k => v.ownBlock = some k ∨ B k)
  lt : ∀ k, B k → k < W.heap.size ∧ v.ownBlock ≠ some k
theorem owns_kept {W W' : World} {b : Nat} {e : TypeId} {s : Nat} {v : Value} {n : Nat} {xs : List Value} (h : W.ownsRow b e s v n xs) (hk : ∀ k, v.ownBlock = some k → W'.heap[k]? = W.heap[k]?) : W'.ownsRow b e s v n xs := by
  refine ⟨h.1, ?_⟩
  rcases h.2 with hn | ⟨g, cap, cur, rfl, h1, h2, h3⟩
  · exact .inl hn
  · exact .inr ⟨g, cap, cur, rfl, h1, (hk g rfl).trans h2, h3⟩
variable {w W : World} {t : Nat} {σ σ' : Tr} {v : Value} {xs : List Int} {B : Nat → Prop}
theorem WsW.then {W' : World} (h : WsW w W t σ v xs B) (hB : Below W.heap.size W W') : WsW w W' t σ v xs B :=
  ⟨owns_kept h.row (fun k hk => hB.block k (h.row.lt k hk).2), h.own.then hB, fun k hk => ⟨Nat.lt_of_lt_of_le (h.lt k hk).1 hB.size, (h.lt k hk).2⟩⟩
theorem WsW.less {B' : Nat → Prop} (h : WsW w W t σ v xs B) (hB : ∀ k, B' k → B k) : WsW w W t σ v xs B' :=
  ⟨h.row, h.own.less (fun k hk => hk.imp id (hB k)), fun k hk => h.lt k (hB k hk)⟩
theorem WsW.box (h : WsW w W t σ v xs B) (o : Obj) : WsW w (W.alloc o) t σ v xs (fun k => B k ∨ k = W.heap.size) := by
  refine ⟨h.row.alloc o, (h.own.box o).less (fun k hk => ?_), fun k hk => ?_⟩
  · rcases hk with hk | hk | hk
    · exact .inl (.inl hk)
    · exact .inl (.inr hk)
    · exact .inr hk
  · rcases hk with hk | rfl
    · have := h.lt k hk; exact ⟨by simp; omega, this.2⟩
    · exact ⟨by simp, fun e => by have := (h.row.lt _ e).2; omega⟩
theorem WsW.below (h : WsW w W t σ v xs B) : Below w.heap.size w W := h.own.below
theorem wsw_none (h : OwnT w W t σ (fun _ => False)) : WsW w W t σ (.slice none 0 0) [] (fun _ => False) :=
  ⟨World.ownsRow_nil _ _ _ _, h.less (fun k hk => by rcases hk with hk | hk; exact (by simp [Value.ownBlock] at hk); exact hk), fun k hk => hk.elim⟩
/-- A call of Do. -/
theorem wsw_doQ {F : FuncId} {vs : Array Value} {Q : Ending → World → Prop} (h : WsW w W t σ v xs B) (hC : ∀ Ls, TrAt W t σ Ls → (∀ k ∈ feet t Ls, w.heap.size ≤ k) → Calls Tryz.prog F vs W fun e w' => Q e w' ∧ Step (fun k => k ∈ feet t Ls) W t w' σ') :
    Calls Tryz.prog F vs W fun e w' => Q e w' ∧ WsW w w' t σ' v xs B ∧ (∀ k, B k → w'.heap[k]? = W.heap[k]?) ∧ W.heap.size ≤ w'.heap.size := by
  refine (own_doQ h.own (fun k hk => hk.elim (fun e => (h.row.lt k e).2) (fun e => (h.lt k e).1)) (fun Ls hT hk => hC Ls hT (fun k hk2 => (hk k hk2).1))).mono ?_
  rintro e w' ⟨hq, h1, h2, h3⟩
  exact ⟨hq, ⟨owns_kept h.row (fun k hk => h2 k (.inl hk)), h1, fun k hk => ⟨Nat.lt_of_lt_of_le (h.lt k hk).1 h3, (h.lt k hk).2⟩⟩, fun k hk => h2 k (.inr hk), h3⟩
theorem wsw_do {F : FuncId} {vs : Array Value} {u : Value} (h : WsW w W t σ v xs B) (hC : ∀ Ls, TrAt W t σ Ls → (∀ k ∈ feet t Ls, w.heap.size ≤ k) → Calls Tryz.prog F vs W fun e w' => e = .returned u ∧ Step (fun k => k ∈ feet t Ls) W t w' σ') :
    Calls Tryz.prog F vs W fun e w' => e = .returned u ∧ WsW w w' t σ' v xs B ∧ (∀ k, B k → w'.heap[k]? = W.heap[k]?) ∧ W.heap.size ≤ w'.heap.size := wsw_doQ h hC
/-- append(want, x). -/
theorem wsw_append (h : WsW w W t σ v xs B) (x : Int) (hn : xs.length ≤ 16777216) :
    ∃ v' W', (Builtin.append_ #[28, 28] 28 #[v, .slice (some ⟨W.heap.size, 0, none⟩) 1 1]).run Tryz.prog (W.alloc (.cells #[.int .u8 x] 5)) = .ok v' W' ∧ WsW w W' t σ v' (xs ++ [x]) B ∧ (∀ k, B k → W'.heap[k]? = W.heap[k]?) ∧ W.heap.size ≤ W'.heap.size := by
  obtain ⟨i0, hi, hz0, hz1, hz2⟩ := info5p
  have hnew := blk_new W (.cells #[.int .u8 x] 5)
  obtain ⟨hO, Ls, hT, hf⟩ := h.own
  have hsz := hO.size
  obtain ⟨g, cap, W3, hr, hown3, hg3, hg, hlt⟩ := run_append_lies (P := Tryz.prog) (W.alloc (.cells #[.int .u8 x] 5)) 28 28 w.heap.size 5 i0 (.int .u8 0) 1 1 Tryz.underlying28 hi hz0 hz1 hz2 rfl (by decide) v xs.length (By xs) (h.row.alloc _) ⟨W.heap.size, 0, none⟩ 1 1 [.int .u8 x] rfl (fun j u hj => by
    match j, hj with
    | 0, hj => cases hj; rw [add_at, blk_cell hnew]; rfl) (fun u hu => by rw [List.mem_singleton.1 hu]; rfl) (by omega) (by unfold maxLen; omega) (by omega) (by simp; omega) _ rfl
  have e : By xs ++ [.int .u8 x] = By (xs ++ [x]) := by simp [By]
  rw [e] at hown3
  have ho : Only (fun k => v.ownBlock = some k) W W3 := ((Only.refl _ W).alloc _).grown hg3 (fun k e => .inl e)
  rw [World.size_alloc] at hg
  have hk : ∀ k, k < W.heap.size → v.ownBlock ≠ some k → W3.heap[k]? = W.heap[k]? := fun k h1 h2 => ho.block k h1 h2
  refine ⟨_, W3, hr, ⟨by rw [List.length_append, List.length_singleton]; exact hown3, ⟨?_, Ls, hT.kept (fun k hkf => hk k (hT.lt k hkf) (fun e => (hf k hkf).2 (.inl e))), fun k hkf => ⟨(hf k hkf).1, ?_⟩⟩, fun k e => ⟨Nat.lt_of_lt_of_le (h.lt k e).1 ho.size, ?_⟩⟩, fun k e => hk k (h.lt k e).1 (h.lt k e).2, ho.size⟩
  · exact hO.trans (ho.below hO.size (fun k e => (h.row.lt k e).1))
  · rintro (e | e)
    · have hgk : g = k := by simpa [Value.ownBlock] using e
      subst hgk
      rcases hg with hg | hg
      · exact (hf _ hkf).2 (.inl hg)
      · have := hT.lt _ hkf; omega
    · exact (hf k hkf).2 (.inr e)
  · intro e2
    have hgk : g = k := by simpa [Value.ownBlock] using e2
    subst hgk
    rcases hg with hg | hg
    · exact (h.lt _ e).2 hg
    · have := (h.lt _ e).1; omega
/-- copy(want[o:], ys). -/
theorem wsw_copy {g n cap : Nat} (hn : xs.length = n) (h : WsW w W t σ (.slice (some ⟨g, 0, none⟩) n cap) xs B) (o m c : Nat) (ys : List Int) (ao : Option Addr) (hb : BAt W ao m ys) (hm : 0 < m) (ho : o + m ≤ n) :
    ∃ W', (Builtin.copy_ #[28, 28] 3 #[.slice (some ⟨g, o, none⟩) (n - o) (cap - o), .slice ao m c]).run Tryz.prog W = .ok (.int .i64 m) W' ∧ WsW w W' t σ (.slice (some ⟨g, 0, none⟩) n cap) (splice xs o ys) B ∧ Below w.heap.size w W' := by
  subst hn
  obtain ⟨W', hr, hown, ho'⟩ := copy_own W w.heap.size g xs.length cap o m c xs ys ao h.row hb hm ho
  obtain ⟨hO, Ls, hT, hf⟩ := h.own
  have hb2 : ∀ k, k = g → Value.ownBlock (.slice (some ⟨g, 0, none⟩) xs.length cap) = some k := fun k e => by rw [e]; rfl
  have hl : (splice xs o ys).length = xs.length := length_splice _ _ _ (by rw [hb.1]; exact ho)
  have hbl : Below w.heap.size w W' := hO.trans (ho'.below hO.size (fun k e => (h.row.lt k (hb2 k e)).1))
  exact ⟨W', hr, ⟨by rw [hl]; exact hown, ⟨hbl, Ls, hT.kept (fun k hkf => ho'.block k (hT.lt k hkf) (fun e => (hf k hkf).2 (.inl (hb2 k e)))), hf⟩, fun k e => ⟨Nat.lt_of_lt_of_le (h.lt k e).1 ho'.size, (h.lt k e).2⟩⟩, hbl⟩
-- the calls
def wsP : ByteArray := ⟨#[47, 102]⟩
theorem ws_way {N : List Nd} {l z : Int} {s : List Slt} {p : List UInt8} (h : N[0]? = some (.dir l z s)) (hl : lookS s p = some 1) : wayE N 0 [p] = (some 1, 0) := by
  have := (way_dir [] h hl).2
  unfold wayE
  rw [this]
  rfl
theorem ws_node {D Bk z : Int} {p : List (Int × List Int)} : nodeE (wsT D Bk z p).nodes (ofS wsP) = (some 1, 0) := by
  unfold nodeE
  rw [show splitL (ofS wsP) = some [[102]] from by decide]
  show wayE (wsT D Bk z p).nodes 0 [[102]] = _
  exact ws_way (l := 2) (z := 1024) (s := wsS) rfl (by decide)
theorem ws_file {D Bk z : Int} {p : List (Int × List Int)} : fileE (wsT D Bk z p).nodes (ofS wsP) = (some 1, 0) := by
  unfold fileE
  rw [ws_node]
  rfl
theorem ws_do2 {K : Int} {want ys : List Int} {Bk z D B' z' : Int} {p p' : List (Int × List Int)} (h : WsW w W t (wsT D Bk z p) v xs B) (hp : WsOk K want Bk z p) {off : Nat} (hw : writeT (wsT D Bk z p) off ys 1 = wsT D B' z' p') (a : Addr) (dc : Nat) (h0 : 0 < ys.length) (h1 : ys.length ≤ 8192) (hdc : ys.length ≤ dc) (hdc2 : dc ≤ 9223372036854775807) (hk : (off : Int) + ys.length ≤ K * 1024) (hK : 0 ≤ K) (hK2 : K ≤ 264) (hD : blkI 1 1 D = D) (hI : inoI 1 1 D = 16) (hDK : K + 2 ≤ D) (hX : BAt W (some a) ys.length ys) (ha : a.block < w.heap.size) :
    Calls Tryz.prog 9 #[ptrV t, callV 8 wsP ⟨#[]⟩ off 0 (.slice (some a) ys.length dc)] W fun e w' => e = .returned (.agg #[.int .i64 0, .slice none 0 0, .int .i64 0, .int .i64 0, .int .i64 0, .slice none 0 0, .int .i64 ys.length]) ∧ WsW w w' t (wsT D B' z' p') v xs B ∧ (∀ k, B k → w'.heap[k]? = W.heap[k]?) ∧ W.heap.size ≤ w'.heap.size :=
  wsw_do h (fun Ls hT hf => by
    have hlen := hp.len hK
    have := doo_write W t _ Ls hT (hp.good hK (by omega)) wsP ⟨#[]⟩ off 0 a ys.length dc ys (by decide) 1 ws_file (show 1 < 2 by decide) rfl (by omega) h0 h1 hdc hdc2 (by omega) hX (fun hh => by have := hf _ hh; omega) (by show p.length ≤ _; omega) (ws_fit hp h0 hk hK hK2 hD hI hDK)
    rw [hw] at this
    exact this)
theorem ws_do3 {K : Int} {want : List Int} {Bk z D : Int} {p : List (Int × List Int)} (h : WsW w W t (wsT D Bk z p) v xs B) (hp : WsOk K want Bk z p) {off n : Nat} (hK : 0 ≤ K) (hK2 : K ≤ 65800) (hoff : off ≤ 67379200) (hn : n ≤ 8192) (hz : want.length ≤ 67379200) (L : Nat) (hL : L = min n (want.length - off)) :
    Calls Tryz.prog 9 #[ptrV t, callV 7 wsP ⟨#[]⟩ off n (.slice none 0 0)] W fun e w' => ∃ g, e = .returned (readV g L) ∧ RAt w' g ((want.drop off).take L) ∧ WsW w w' t (wsT D Bk z p) v xs (fun k => B k ∨ k = g) ∧ (∀ k, B k → w'.heap[k]? = W.heap[k]?) ∧ W.heap.size ≤ w'.heap.size := by
  obtain ⟨hO, Ls, hT, hf⟩ := h.own
  have hs := hp.size
  have hzz : (nodeAt (wsT D Bk z p).nodes 1).size = z := rfl
  have hpp : (nodeAt (wsT D Bk z p).nodes 1).parts = p := rfl
  refine (do_read W t (wsT D Bk z p) Ls wsP ⟨#[]⟩ off n none 0 0 0 0 0 0 0 (fun x y X => BytesQ (W.heap.size + 2) L ((want.drop off).take L) x y X ∧ TrAt X t (wsT D Bk z p) Ls) (fun k hk => hT.lt k hk) (fun x y W1 W2 hh ho => ?_) (Hid.mk (fun X hB hsz => (read_main X t (wsT D Bk z p) Ls (hT.below rfl hB) (hp.good hK hK2) 7 wsP ⟨#[]⟩ off n none 0 0 (by decide) 1 ws_file (show 1 < 2 by decide) rfl (by omega) (by omega) (by omega) (by omega) (by rw [hzz]; omega) L (by rw [hzz]; omega)).mono (fun e w' hh => ?_)))).mono ?_
  · obtain ⟨⟨h1, g, h2, h3, h4⟩, h7⟩ := hh
    exact ⟨⟨h1, g, h2, (ho.block g (lt_of_block h3) (by omega)).trans h3, h4⟩, h7.kept (fun k hk => ho.block k (h7.lt k hk) (fun e => by have := hT.lt k hk; omega))⟩
  · obtain ⟨g, h1, h2, h3, h4⟩ := hh
    rw [hpp, ws_read hp off L (by omega)] at h3
    exact ⟨_, _, _, none, 0, 0, h1, Step.still (hT.below rfl hB) (fun k hk => hk) h2, ⟨rfl, g, rfl, h3, by omega⟩, (hT.below rfl hB).below rfl h2⟩
  · rintro e w' ⟨a1, n1, c1, a5, n5, c5, rfl, hst, ⟨h1, g, h2, h3, h4⟩, h7⟩
    cases h1; cases h2
    have hk : ∀ k, k < W.heap.size → k ∉ feet t Ls → w'.heap[k]? = W.heap[k]? := fun k h1 h2 => hst.only.block k h1 h2
    have hB : ∀ k, (v.ownBlock = some k ∨ B k) → k ∉ feet t Ls := fun k h1 h2 => (hf k h2).2 h1
    refine ⟨g, rfl, h3, ⟨owns_kept h.row (fun k e => hk k (h.row.lt k e).2 (hB k (.inl e))), ⟨?_, Ls, h7, fun k hkf => ⟨(hf k hkf).1, ?_⟩⟩, ?_⟩, fun k e => hk k (h.lt k e).1 (hB k (.inr e)), hst.only.size⟩
    · exact ((Only.of_below (S := fun _ => False) hO (fun k h1 h2 => by omega)).trans hst.only (fun i hi => .inr (hf i hi).1)).below (Nat.le_refl _) (fun _ h => h.elim)
    · rintro (e | e | e)
      · exact (hf k hkf).2 (.inl e)
      · exact (hf k hkf).2 (.inr e)
      · have := hT.lt k hkf; omega
    · rintro k (e | e)
      · exact ⟨Nat.lt_of_lt_of_le (h.lt k e).1 hst.only.size, (h.lt k e).2⟩
      · subst e; exact ⟨lt_of_block h3, fun e2 => by have := (h.row.lt _ e2).2; omega⟩
theorem ws_do4 {Bk z D : Int} {p : List (Int × List Int)} (h : WsW w W t (wsT D Bk z p) v xs B) :
    Calls Tryz.prog 9 #[ptrV t, callV 10 wsP ⟨#[]⟩ 0 0 (.slice none 0 0)] W fun e w' => e = .returned (.agg #[.int .i64 0, .slice none 0 0, .int .i64 1, .int .i64 z, .int .i64 1, .slice none 0 0, .int .i64 0]) ∧ WsW w w' t (wsT D Bk z p) v xs B ∧ (∀ k, B k → w'.heap[k]? = W.heap[k]?) ∧ W.heap.size ≤ w'.heap.size :=
  wsw_do h (fun Ls hT hf => doo_stat W t _ Ls hT wsP ⟨#[]⟩ 0 0 none 0 0 (by decide) 0 1 z 1 (by unfold statV; rw [ws_node]; rfl))
/-- An empty write. -/
theorem ws_do5 {Bk z D : Int} {p : List (Int × List Int)} (h : WsW w W t (wsT D Bk z p) v xs B) {off : Nat} (ho : off ≤ 67379200) (dp : Option Addr) (dl dc : Nat) (hd : dl = 0) :
    Calls Tryz.prog 9 #[ptrV t, callV 8 wsP ⟨#[]⟩ off 0 (.slice dp dl dc)] W fun e w' => e = .returned (errV 0) ∧ WsW w w' t (wsT D Bk z p) v xs B ∧ (∀ k, B k → w'.heap[k]? = W.heap[k]?) ∧ W.heap.size ≤ w'.heap.size :=
  wsw_do h (fun Ls hT hf => doo_write_none W t _ Ls hT wsP ⟨#[]⟩ off 0 dp dl dc (by decide) (by omega) (by omega) hd 1 ws_file)
theorem lW_any2 (w : World) (s : ByteArray) (off : Int) (ao : Option Addr) (dl dc : Nat) : Calls Tryz.prog 14 #[.string s, .int .i64 off, .slice ao dl dc] w fun x w' => x = .returned (callV 8 s ⟨#[]⟩ off 0 (.slice ao dl dc)) ∧ Below w.heap.size w w' := by
  go_enter Tryz.func14, Tryz.ntmps14
  go_wp2
  refine bodyPost_ret (v := callV 8 s ⟨#[]⟩ off 0 (.slice ao dl dc)) ?_ rfl ⟨rfl, ?_⟩
  · simp [results, Tryz.results14, go_sem, callV]
  · exact (Below.refl _ w).alloc (Nat.le_refl _) _
theorem ws_do1 (D : Int) (he : enterS (newT 1 1 D) [47, 102] newF = (0, wsT D 1 0 [])) (hO : OwnT w W t (newT 1 1 D) B) (hB : ∀ k, B k → k < W.heap.size) : Calls Tryz.prog 9 #[ptrV t, callV 1 wsP ⟨#[]⟩ 0 0 (.slice none 0 0)] W fun e w' => e = .returned (errV 0) ∧ OwnT w w' t (wsT D 1 0 []) B ∧ (∀ k, B k → w'.heap[k]? = W.heap[k]?) ∧ W.heap.size ≤ w'.heap.size :=
  own_do hO hB (fun Ls hT => by
    have := doo_create W t _ Ls hT (new_ok _ _ _) wsP ⟨#[]⟩ 0 0 none 0 0 (by decide)
    rw [show ofS wsP = [47, 102] from rfl, he] at this
    exact this)
theorem ws_first900 : enterS (newT 1 1 900) [47, 102] newF = (0, wsT 900 1 0 []) := by kernel_rfl
theorem ws_first100 : enterS (newT 1 1 100) [47, 102] newF = (0, wsT 100 1 0 []) := by kernel_rfl
theorem ws_good900 : blkI 1 1 900 = 900 ∧ inoI 1 1 900 = 16 := by decide
theorem ws_good100 : blkI 1 1 100 = 100 ∧ inoI 1 1 100 = 16 := by decide
theorem wpList_knownR {P : Program} {w : World} {ops : Array Oper} {rest : List Oper} {o : Oper} {a : Act} {Q : Exit → Act → World → Prop} (hw : Region.wanted o (yielded ops a.tmps) = true) (v : Value) (w' : World)
    (hrun : (execOp a.eval o).run P w = .ok (.value v) w') (h : wpList P ops Q rest (a.put o.dst v) w') : wpList P ops Q (o :: rest) a w := by
  refine BigFrame.wpList_want hw fun K hK => ?_
  unfold Oper.wp
  rw [hrun, Oper.upon_value]
  exact hK _ _ h
/-- What the row is as a value. -/
theorem WsW.val (h : WsW w W t σ v xs B) : ∃ ao c, v = .slice ao xs.length c ∧ xs.length ≤ c ∧ c ≤ 9223372036854775807 ∧ ((ao = none ∧ xs.length = 0 ∧ c = 0) ∨ ∃ g, ao = some ⟨g, 0, none⟩) ∧ BAt W ao xs.length xs := by
  rcases h.row.2 with ⟨hn, h0⟩ | ⟨g, cap, cur, hv, h1, h2, h3, h4, h5, h6⟩
  · exact ⟨none, 0, by rw [hn, h0], by omega, by omega, .inl ⟨rfl, h0, rfl⟩, ⟨rfl, fun hh => by omega⟩⟩
  · refine ⟨_, cap, hv, h3, by unfold maxLen at h4; omega, .inr ⟨g, rfl⟩, rfl, fun hh => ⟨_, rfl, (lt_of_block h2), fun i hi => ?_⟩⟩
    have hr := h.row
    rw [hv] at hr
    rw [add_at, Nat.zero_add, hr.cellAt i (by omega), By_get _ i hi]
/-- want[o:e]. -/
theorem part_run (ao : Option Addr) (n c o e : Nat) (h : o ≤ e ∧ e ≤ n ∧ n ≤ c ∧ c ≤ 9223372036854775807) (hg : (ao = none ∧ n = 0 ∧ c = 0) ∨ ∃ g, ao = some ⟨g, 0, none⟩) : ∃ bo c', (∀ (ev : Operand → Value) (oi : Oper) (s y z : Operand) (W : World), oi.op = .slice 28 s (some y) (some z) none → ev s = .slice ao n c → ev y = .int .i64 (o : Int) → ev z = .int .i64 (e : Int) → (execOp ev oi).run Tryz.prog W = .ok (.value (.slice bo (e - o) c')) W) ∧ ∀ W xs, BAt W ao n xs → BAt W bo (e - o) ((xs.drop o).take (e - o)) := by
  rcases hg with ⟨rfl, rfl, rfl⟩ | ⟨g, rfl⟩
  · obtain rfl : e = 0 := by omega
    obtain rfl : o = 0 := by omega
    refine ⟨none, 0, fun ev oi s y z W ho hs hy hz => ?_, fun W xs hb => ⟨by simp, fun h => by omega⟩⟩
    unfold execOp
    rw [ho]
    simp only [hs, hy, hz, Option.map]
    go_simp
  · by_cases hco : c = o
    · obtain rfl : e = o := by omega
      obtain rfl : n = e := by omega
      subst hco
      refine ⟨some ⟨g, 0, none⟩, c - c, fun ev oi s y z W ho hs hy hz => ?_, fun W xs hb => ⟨by simp, fun h => by omega⟩⟩
      unfold execOp
      rw [ho]
      simp only [hs, hy, hz, Option.map]
      go_simp
    · refine ⟨some ⟨g, o, none⟩, c - o, fun ev oi s y z W ho hs hy hz => ?_, fun W xs hb => ?_⟩
      · unfold execOp
        rw [ho]
        simp only [hs, hy, hz, Option.map]
        have a1 : e ≤ n := by omega
        have a2 : o ≤ e := by omega
        have a3 : ¬ c = o := hco
        have a4 : e ≤ c := by omega
        go_simp
      · have h1 := hb.from o (by omega)
        rw [add_at, Nat.zero_add] at h1
        exact h1.upto (by omega)
theorem exec_slW {ev : Operand → Value} {oi : Oper} {s y : Operand} {W : World} (g n c o : Nat) (h : o < n ∧ n ≤ c ∧ c ≤ 9223372036854775807) (ho : oi.op = .slice 28 s (some y) none none) (hs : ev s = .slice (some ⟨g, 0, none⟩) n c) (hy : ev y = .int .i64 (o : Int)) : (execOp ev oi).run Tryz.prog W = .ok (.value (.slice (some ⟨g, o, none⟩) (n - o) (c - o))) W := by
  unfold execOp
  rw [ho]
  simp only [hs, hy, Option.map]
  have a1 : o ≤ n := by omega
  have a2 : ¬ c = o := by omega
  have a3 : o ≤ c := by omega
  go_simp
/-- The length of a slice. -/
def lenV : Value → Nat
  | .slice _ n _ => n
  | _ => 0
end Go.Proofs.YtehaoeclnmelhacGreat
