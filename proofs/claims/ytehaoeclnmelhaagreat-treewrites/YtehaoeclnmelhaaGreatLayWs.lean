/-
  A file that is written and cut: lists.
-/
import Derived.Test.YtehaoeclnmelhaaGreatTrLaw
import Derived.Test.YtehaoeclnmelhaaGreatLayTop
import Derived.Test.YtehaoeclnmelhaaGreatTrRead
import Derived.Test.YtehaoeclnmelhaaGreatTrByte
import Derived.Test.YtehaoeclnmelhaaGreatTrDo3
import Derived.Test.YtehaoeclnmelhaaGreatTrAlive
import Derived.Test.YtehaoeclnmelhaaGreatTrRmL
import Derived.Test.YtehaoeclnmelhaaGreatTrHdL
import Derived.Deep.AppendLies
import Derived.Laws.OwnMore
namespace Go.Proofs.YtehaoeclnmelhaaGreat
open Go Go.Proofs Go.RowKit Go.Shelf Go.Sort

theorem any_mem {l l' : List Int} (h : ∀ y, y ∈ l ↔ y ∈ l') (P : Int → Bool) : l.any P = l'.any P := by
  rw [Bool.eq_iff_iff]
  simp only [List.any_eq_true]
  exact ⟨fun ⟨x, hx, hp⟩ => ⟨x, (h x).1 hx, hp⟩, fun ⟨x, hx, hp⟩ => ⟨x, (h x).2 hx, hp⟩⟩
/-- How many indirect blocks numbers want hangs on which they are. -/
theorem mt_mem {l l' : List Int} (h : ∀ y, y ∈ l ↔ y ∈ l') : mtN l = mtN l' := by
  unfold mtN
  have e : useB l = useB l' := by
    funext k
    exact any_mem h _
  unfold useN
  rw [any_mem h, any_mem h, e]
theorem room_mem {l l' : List Int} (h : ∀ y, y ∈ l ↔ y ∈ l') (hl : l.length = l'.length) : roomL l = roomL l' := by
  unfold roomL
  rw [mt_mem h, hl]
theorem wr_keys (off cnt : Int) (xs : List Int) (p : List (Int × List Int)) (k : Nat) (y : Int) : y ∈ (wrP off cnt xs p k).map (·.1) ↔ y ∈ p.map (·.1) ∨ y ∈ (List.range k).map (pzB off) := by
  induction k with
  | zero => simp [wrP]
  | succ k ih =>
    rw [wrP, keys_put, ih, List.range_succ, List.map_append, List.mem_append]
    constructor
    · rintro (h | h | h)
      · exact .inr (.inr (by simp [h]))
      · exact .inl h
      · exact .inr (.inl h)
    · rintro (h | h | h)
      · exact .inr (.inl h)
      · exact .inr (.inr h)
      · simp at h; exact .inl h
theorem wr_klen (off cnt : Int) (xs : List Int) {p : List (Int × List Int)} (hp : (p.map (·.1)).Pairwise (· < ·)) (k : Nat) : (wrP off cnt xs p k).length = p.length + (missK off p k).length := by
  induction k with
  | zero => simp [wrP, missK]
  | succ k ih =>
    have hw := (wr_len off cnt xs p k hp).1
    have hk : pzB off k ∈ (wrP off cnt xs p k).map (·.1) ↔ pzB off k ∈ p.map (·.1) := by
      rw [wr_keys]
      refine ⟨fun h => h.elim id (fun h => ?_), .inl⟩
      obtain ⟨j, hj, e⟩ := List.mem_map.1 h
      rw [List.mem_range] at hj
      unfold pzB at e
      omega
    rw [wrP, miss_succ, List.length_append]
    by_cases hm : pzB off k ∈ p.map (·.1)
    · rw [put_old _ _ hw (hk.2 hm), ih, if_pos hm]
      simp
    · rw [put_new _ _ (fun h => hm (hk.1 h)), ih, if_neg hm]
      simp
      omega
/-- What a write adds to a file's room is what is asked ahead of it. -/
theorem wr_room (off cnt : Int) (xs : List Int) {p : List (Int × List Int)} (hp : (p.map (·.1)).Pairwise (· < ·)) : roomL ((wrP off cnt xs p (pzN off cnt)).map (·.1)) = roomL (p.map (·.1)) + fillN off cnt p := by
  have hmem : ∀ y, y ∈ (wrP off cnt xs p (pzN off cnt)).map (·.1) ↔ y ∈ p.map (·.1) ++ missK off p (pzN off cnt) := by
    intro y
    rw [wr_keys, List.mem_append]
    unfold missK
    rw [List.mem_filter]
    constructor
    · rintro (h | h)
      · exact .inl h
      · by_cases hy : y ∈ p.map (·.1)
        · exact .inl hy
        · exact .inr ⟨h, by simpa using hy⟩
    · rintro (h | h)
      · exact .inl h
      · exact .inr h.1
  have hlen : ((wrP off cnt xs p (pzN off cnt)).map (·.1)).length = (p.map (·.1) ++ missK off p (pzN off cnt)).length := by
    rw [List.length_map, wr_klen off cnt xs hp, List.length_append, List.length_map]
  rw [room_mem hmem hlen]
  unfold fillN
  split
  · next h => rw [h]; simp
  · omega
theorem wr_ok {off cnt : Int} {xs : List Int} (h0 : 0 ≤ off) {p : List (Int × List Int)} (hp : partsOk p) (k : Nat) (hk : off / 1024 + k ≤ 65800) : partsOk (wrP off cnt xs p k) := by
  induction k with
  | zero => exact hp
  | succ k ih =>
    rw [wrP]
    exact put_ok (ih (by omega)) (by unfold pzB; omega) (by unfold pzB; omega)
theorem sorted_len : ∀ (l : List Int) (a b : Int), l.Pairwise (· < ·) → (∀ x ∈ l, a ≤ x ∧ x < b) → a ≤ b → (l.length : Int) ≤ b - a
  | [], a, b, _, _, h => by simp; omega
  | x :: l, a, b, hp, h, hab => by
    obtain ⟨h1, h2⟩ := List.pairwise_cons.1 hp
    have hx := h x (by simp)
    have := sorted_len l (x + 1) b h2 (fun y hy => ⟨by have := h1 y hy; omega, (h y (by simp [hy])).2⟩) (by omega)
    simp only [List.length_cons]
    omega
/-- The root, with one file 'f'. -/
def wsS : List Slt := some (1, [102]) :: List.replicate 29 none
def wsT (D B z : Int) (p : List (Int × List Int)) : Tr := ⟨1, 1, D, 2, B, [.dir 2 1024 wsS, .file 1 z p]⟩
/-- A file holds 'want': its blocks are below K. -/
structure WsOk (K : Int) (want : List Int) (B z : Int) (p : List (Int × List Int)) : Prop where
  size : z = want.length
  ok : partsOk p
  full : fullP p
  keys : ∀ x ∈ p.map (·.1), 0 ≤ x ∧ x < K
  bytes : ∀ i : Nat, byteP p i = want.getD i 0
  room : B = 1 + roomL (p.map (·.1))
theorem ws_none (K : Int) : WsOk K [] 1 0 [] := { size := rfl, ok := ⟨List.Pairwise.nil, fun x h => (List.not_mem_nil h).elim⟩, full := (fun x d h => by simp [getP] at h), keys := (fun x h => by simp at h), bytes := (fun i => by rw [byteP_nil]; simp), room := (by unfold roomL; simp [mt_none]) }
theorem WsOk.rows {K : Int} {want : List Int} {B z : Int} {p : List (Int × List Int)} (h : WsOk K want B z p) : ∀ x ∈ p, x.2.length = 1024 := fun x hx => h.full x.1 x.2 (getP_mem h.ok.1 hx)
theorem WsOk.len {K : Int} {want : List Int} {B z : Int} {p : List (Int × List Int)} (h : WsOk K want B z p) (hK : 0 ≤ K) : (p.length : Int) ≤ K := by
  have := sorted_len (p.map (·.1)) 0 K h.ok.1 h.keys hK
  simp at this
  omega
theorem WsOk.low {K : Int} {want : List Int} {B z : Int} {p : List (Int × List Int)} (h : WsOk K want B z p) (hK : 0 ≤ K) (hK2 : K ≤ 264) : 1 ≤ B ∧ B ≤ K + 2 := by
  have h1 := h.len hK
  have h2 := mt_small (l := p.map (·.1)) (fun x hx => ⟨(h.keys x hx).1, by have := (h.keys x hx).2; omega⟩)
  rw [h.room]
  unfold roomL
  rw [h2]
  simp only [List.length_map]
  split <;> simp <;> omega
theorem WsOk.good {K : Int} {want : List Int} {B z D : Int} {p : List (Int × List Int)} (h : WsOk K want B z p) (hK : 0 ≤ K) (hK2 : K ≤ 65800) : ∀ x ∈ (wsT D B z p).nodes, x.Ok := by
  intro x hx
  simp only [wsT, List.mem_cons, List.mem_nil_iff, or_false] at hx
  rcases hx with rfl | rfl
  · exact ⟨by omega, by omega, by simp [wsS]⟩
  · exact ⟨h.ok, by have := h.len hK; omega⟩
/-- What is there behind a write. -/
def wantW (want : List Int) (off : Nat) (xs : List Int) : List Int := splice (want ++ zeros (off + xs.length - want.length)) off xs
theorem wantW_len (want : List Int) (off : Nat) (xs : List Int) : (wantW want off xs).length = max want.length (off + xs.length) := by
  unfold wantW
  rw [length_splice _ _ _ (by simp [zeros]; omega)]
  simp [zeros]
  omega
theorem wantW_get (want : List Int) (off : Nat) (xs : List Int) (i : Nat) : (wantW want off xs).getD i 0 = if off ≤ i ∧ i < off + xs.length then xs.getD (i - off) 0 else want.getD i 0 := by
  unfold wantW
  rw [splice_getD (by simp [zeros]; omega)]
  split
  · rfl
  · simp only [List.getD_eq_getElem?_getD, List.getElem?_append]
    split
    · rfl
    · next h =>
      rw [List.getElem?_eq_none (l := want) (by omega)]
      simp only [zeros, List.getElem?_replicate]
      split <;> rfl
theorem ws_write {K : Int} {want : List Int} {B z D : Int} {p : List (Int × List Int)} (h : WsOk K want B z p) {off : Nat} {xs : List Int} (h0 : 0 < xs.length) (h1 : (off : Int) + xs.length ≤ K * 1024) (hK : 0 ≤ K) (hK2 : K ≤ 264) :
    ∃ B' z' p', writeT (wsT D B z p) off xs 1 = wsT D B' z' p' ∧ WsOk K (wantW want off xs) B' z' p' ∧ B' = B + fillN off xs.length p := by
  have hn : ∀ k, k < pzN off xs.length → pzB off k < K := fun k hk => by
    unfold pzN at hk
    rw [if_neg (by omega)] at hk
    unfold pzB
    omega
  have hb : (off : Int) / 1024 + (pzN off xs.length : Int) ≤ 65800 := by
    unfold pzN
    rw [if_neg (by omega)]
    omega
  refine ⟨B + fillN off xs.length p, max z (off + xs.length), wrP off xs.length xs p (pzN off xs.length), ?_, ⟨?_, wr_ok (by omega) h.ok _ hb, wr_full (by omega) h.full (Nat.le_refl _), ?_, ?_, ?_⟩, rfl⟩
  · have h2 := h.low hK hK2
    have h3 := wr_room (off : Int) xs.length xs h.ok.1
    have h4 := room_bound ((wrP off xs.length xs p (pzN off xs.length)).map (·.1))
    have h5 := (wr_len off xs.length xs p (pzN off xs.length) h.ok.1).2
    have h6 := h.len hK
    have h7 := pz_lt (off := (off : Int)) (n := xs.length) (by omega)
    simp only [List.length_map] at h4
    have h8 := room_bound (p.map (·.1))
    simp only [List.length_map] at h8
    unfold writeT wsT
    simp only [nodeAt, List.getD, List.getElem?_cons_succ, List.getElem?_cons_zero, Option.getD_some, Nd.parts, List.modify_succ_cons, List.modify_zero_cons, Nd.wr]
    congr 1
    · unfold w64 wrap64; omega
    · unfold w64 wrap64
      omega
  · rw [h.size, wantW_len]
    omega
  · intro y hy
    rw [wr_keys] at hy
    rcases hy with hy | hy
    · exact h.keys y hy
    · obtain ⟨j, hj, rfl⟩ := List.mem_map.1 hy
      exact ⟨by unfold pzB; omega, hn j (List.mem_range.1 hj)⟩
  · intro i
    rw [wr_byte (by omega) h.full (Nat.le_refl _), pz_out (by omega) (by omega), wantW_get, h.bytes]
    by_cases hi : off ≤ i ∧ i < off + xs.length
    · rw [if_pos hi, if_pos (by omega)]
      congr 1
      omega
    · rw [if_neg hi, if_neg (by omega)]
  · rw [wr_room (off : Int) xs.length xs h.ok.1, h.room]
    omega
theorem ws_fit {K : Int} {want : List Int} {B z D : Int} {p : List (Int × List Int)} (h : WsOk K want B z p) {off : Nat} {xs : List Int} (h0 : 0 < xs.length) (h1 : (off : Int) + xs.length ≤ K * 1024) (hK : 0 ≤ K) (hK2 : K ≤ 264) (hD : blkI 1 1 D = D) (hI : inoI 1 1 D = 16) (hDK : K + 2 ≤ D) : fitsB 1 1 D 2 B 0 (fillN off xs.length p) = true := by
  obtain ⟨B', z', p', _, h2, h3⟩ := ws_write (D := D) h h0 h1 hK hK2
  have h4 := h2.low hK hK2
  have h5 := h.low hK hK2
  unfold fitsB w64 wrap64
  rw [hD, hI]
  simp
  omega
theorem getD_eq {xs ys : List Int} (hl : xs.length = ys.length) (h : ∀ i, i < xs.length → xs.getD i 0 = ys.getD i 0) : xs = ys := by
  refine List.ext_getElem hl (fun i h1 h2 => ?_)
  have := h i h1
  simpa [List.getD, List.getElem?_eq_getElem h1, List.getElem?_eq_getElem h2] using this
/-- What is read of it. -/
theorem ws_read {K : Int} {want : List Int} {B z : Int} {p : List (Int × List Int)} (h : WsOk K want B z p) (off L : Nat) (hl : L = 0 ∨ off + L ≤ want.length) : rdP off L p (pzN off L) = (want.drop off).take L := by
  have hlen : (rdP off L p (pzN off L)).length = L := rd_len (by omega) (Nat.le_refl _)
  have hlen2 : ((want.drop off).take L).length = L := by
    rw [List.length_take, List.length_drop]
    omega
  refine getD_eq (hlen.trans hlen2.symm) (fun i hi => ?_)
  rw [hlen] at hi
  rw [rd_byte (by omega) h.rows (Nat.le_refl _) i (by rw [pz_out (by omega) (by omega)]; omega)]
  rw [show (off : Int) + (i : Int) = ((off + i : Nat) : Int) from by omega, h.bytes]
  simp only [List.getD_eq_getElem?_getD, List.getElem?_take, hi, if_true, List.getElem?_drop]
end Go.Proofs.YtehaoeclnmelhaaGreat
namespace Go.Proofs.YtehaoeclnmelhaaGreat
open Go Go.Proofs Go.RowKit Go.Shelf Go.Sort

set_option maxRecDepth 100000 in
theorem lR_any (w : World) (s : ByteArray) (off n : Int) : Calls Tryz.prog 28 #[.string s, .int .i64 off, .int .i64 n] w fun x w' => x = .returned (callV 7 s ⟨#[]⟩ off n (.slice none 0 0)) ∧ Below w.heap.size w w' := by
  go_enter Tryz.func28, Tryz.ntmps28
  go_wp2
  refine bodyPost_ret (v := callV 7 s ⟨#[]⟩ off n (.slice none 0 0)) ?_ rfl ⟨rfl, ?_⟩
  · simp [results, Tryz.results28, go_sem, callV]
  · exact (Below.refl _ w).alloc (Nat.le_refl _) _
/-- What a read answers. -/
def readV (g L : Nat) : Value := .agg #[.int .i64 0, .slice (some ⟨g, 0, none⟩) L L, .int .i64 0, .int .i64 0, .int .i64 0, .slice none 0 0, .int .i64 0]
def BytesQ (B L : Nat) (xs : List Int) (x y : Value) (W : World) : Prop := y = .slice none 0 0 ∧ ∃ g, x = .slice (some ⟨g, 0, none⟩) L L ∧ RAt W g xs ∧ B ≤ g
theorem doo_read (w : World) (t : Nat) (σ : Tr) (Ls : List Lay) (hT : TrAt w t σ Ls) (hOk : ∀ x ∈ σ.nodes, x.Ok) (s s2 : ByteArray) (off N : Int) (dp : Option Addr) (dl dc : Nat) (hs : s.size ≤ 16777216) (j : Nat) (he : fileE σ.nodes (ofS s) = (some j, 0)) (hj : j < σ.nodes.length) (hjk : (nodeAt σ.nodes j).isDir = false) (h0 : 0 ≤ off) (h1 : off ≤ 67379200) (hN0 : 0 ≤ N) (hN1 : N ≤ 8192) (hz : 0 ≤ (nodeAt σ.nodes j).size ∧ (nodeAt σ.nodes j).size ≤ 67379200) (L : Nat) (hL : (L : Int) = max 0 (min N ((nodeAt σ.nodes j).size - off))) :
    Calls Tryz.prog 13 #[ptrV t, callV 7 s s2 off N (.slice dp dl dc)] w fun e w' => ∃ g, e = .returned (readV g L) ∧ RAt w' g (rdP off L (nodeAt σ.nodes j).parts (pzN off L)) ∧ w.heap.size + 2 ≤ g ∧ Step (fun k => k ∈ feet t Ls) w t w' σ := by
  refine (do_read w t σ Ls s s2 off N dp dl dc 0 0 0 0 0 (BytesQ (w.heap.size + 2) L (rdP off L (nodeAt σ.nodes j).parts (pzN off L))) (fun k hk => hT.lt k hk) (fun x y W1 W2 h ho => ?_) (Hid.mk (fun W hB hsz => (read_main W t σ Ls (hT.below rfl hB) hOk 7 s s2 off N dp dl dc hs j he hj hjk h0 h1 hN0 hN1 hz L hL).mono (fun e w' hh => ?_)))).mono ?_
  · obtain ⟨h1, g, h2, h3, h4⟩ := h
    exact ⟨h1, g, h2, (ho.block g (lt_of_block h3) (by omega)).trans h3, h4⟩
  · obtain ⟨g, h1, h2, h3, h4⟩ := hh
    exact ⟨_, _, _, none, 0, 0, h1, Step.still (hT.below rfl hB) (fun k hk => hk) h2, rfl, g, rfl, h3, by omega⟩
  · rintro e w' ⟨a1, n1, c1, a5, n5, c5, rfl, hst, h1, g, h2, h3, h4⟩
    cases h1; cases h2
    exact ⟨_, rfl, h3, h4, hst⟩
/-- As own_do, with what the answer brings along; the tree's blocks are new. -/
theorem own_doQ {w W : World} {t : Nat} {σ σ' : Tr} {B : Nat → Prop} {F : FuncId} {vs : Array Value} {Q : Ending → World → Prop} (hO : OwnT w W t σ B) (hB : ∀ k, B k → k < W.heap.size) (hC : ∀ Ls, TrAt W t σ Ls → (∀ k ∈ feet t Ls, w.heap.size ≤ k ∧ ¬ B k) → Calls Tryz.prog F vs W fun e w' => Q e w' ∧ Step (fun k => k ∈ feet t Ls) W t w' σ') :
    Calls Tryz.prog F vs W fun e w' => Q e w' ∧ OwnT w w' t σ' B ∧ (∀ k, B k → w'.heap[k]? = W.heap[k]?) ∧ W.heap.size ≤ w'.heap.size := by
  obtain ⟨h1, Ls, h2, h3⟩ := hO
  refine (hC Ls h2 h3).mono ?_
  rintro e w' ⟨hq, ⟨⟨Ls', h4, h5⟩, h6⟩⟩
  refine ⟨hq, ⟨?_, Ls', h4, fun k hk => ?_⟩, fun k hk => h6.block k (hB k hk) (fun hf => (h3 k hf).2 hk), h6.size⟩
  · exact ((Only.of_below (S := fun _ => False) h1 (fun k h1 h2 => by omega)).trans h6 (fun i hi => .inr (h3 i hi).1)).below (Nat.le_refl _) (fun _ h => h.elim)
  · rcases h5 k hk with h | h
    · exact h3 k h
    · exact ⟨Nat.le_trans h1.size h, fun hb => by have := hB k hb; omega⟩
end Go.Proofs.YtehaoeclnmelhaaGreat
namespace Go.Proofs.YtehaoeclnmelhaaGreat
open Go Go.Proofs Go.RowKit Go.Shelf Go.Sort

set_option maxRecDepth 100000 in
set_option maxHeartbeats 4000000 in
theorem read_arg1 (w : World) (t : Nat) (σ : Tr) (Ls : List Lay) (_hT : TrAt w t σ Ls) (kk : Int) (s s2 : ByteArray) (off N : Int) (dp : Option Addr) (dl dc : Nat) (_hs : s.size ≤ 16777216) (h : off < 0) :
    Calls Tryz.prog 49 #[ptrV t, callV kk s s2 off N (.slice dp dl dc)] w fun x w' => x = .returned (errV 1) ∧ Below w.heap.size w w' := by
  unfold callV ptrV at *
  go_enter Tryz.func49, Tryz.ntmps49
  go_wp2_with fail
  obtain ⟨X, hX⟩ : ∃ X, X = (w.alloc (.cells #[.int .i64 kk, .string s, .string s2, .int .i64 off, .int .i64 N, .slice dp dl dc] 33)).alloc (.cells #[.int .i64 0, .slice none 0 0, .int .i64 0, .int .i64 0, .int .i64 0, .slice none 0 0, .int .i64 0] 37) := ⟨_, rfl⟩
  have hXB : Below w.heap.size w X := by rw [hX]; exact ((Below.refl _ w).alloc (Nat.le_refl _) _).alloc (by simp) _
  have hXs : X.heap.size = w.heap.size + 2 := by rw [hX]; simp
  have hX0 : X.heap[w.heap.size]? = some (.cells #[.int .i64 kk, .string s, .string s2, .int .i64 off, .int .i64 N, .slice dp dl dc] 33 (0, 0)) := by rw [hX, Below.heap_alloc _ _ _ (by simp)]; exact blk_new w _
  have hX1 : X.heap[w.heap.size + 1]? = some (.cells #[.int .i64 0, .slice none 0 0, .int .i64 0, .int .i64 0, .int .i64 0, .slice none 0 0, .int .i64 0] 37 (0, 0)) := by
    rw [hX]
    have := blk_new (w.alloc (.cells #[.int .i64 kk, .string s, .string s2, .int .i64 off, .int .i64 N, .slice dp dl dc] 33)) (.cells #[.int .i64 0, .slice none 0 0, .int .i64 0, .int .i64 0, .int .i64 0, .slice none 0 0, .int .i64 0] 37)
    rwa [World.size_alloc] at this
  rw [← hX]
  clear hX
  have f1 := blk_cell hX0 1
  have f3 := blk_cell hX0 3
  have f4 := blk_cell hX0 4
  simp at f1 f3 f4
  have HXB := Hid.mk hXB
  have HXS := Hid.mk hXs
  have HX0 := Hid.mk hX0
  have HX1 := Hid.mk hX1
  clear hXB hXs hX0 hX1
  go_wp2_with (go_at_call 34; refine (failed_any _ _).mono ?_; rintro e' W4 ⟨rfl, hb4⟩; have hbx := (hb4.block _ (lt_of_block HX1.out)).trans HX1.out; have z0 := blk_cell hbx 0; have y0 := blk_free hbx 0; have z1 := blk_cell hbx 1; have y1 := blk_free hbx 1; have z2 := blk_cell hbx 2; have y2 := blk_free hbx 2; have z3 := blk_cell hbx 3; have y3 := blk_free hbx 3; have z4 := blk_cell hbx 4; have y4 := blk_free hbx 4; have z5 := blk_cell hbx 5; have y5 := blk_free hbx 5; have z6 := blk_cell hbx 6; have y6 := blk_free hbx 6; simp at z0 z1 z2 z3 z4 z5 z6; have BXX := Hid.mk hbx; have HB4 := Hid.mk (HXB.out.trans (hb4.mono HXB.out.size)); unfold errV; clear hbx hb4)
  have hb7 := (box7 BXX.out (.int .i64 1) (.slice none 0 0) (.int .i64 0) (.int .i64 0) (.int .i64 0) (.slice none 0 0) (.int .i64 0)).1
  have ho7 := (box7 BXX.out (.int .i64 1) (.slice none 0 0) (.int .i64 0) (.int .i64 0) (.int .i64 0) (.slice none 0 0) (.int .i64 0)).2
  obtain ⟨Y, hY⟩ : ∃ Y, Y = (((((((W4.setCell ⟨w.heap.size + 1, 0, none⟩ (.int .i64 1)).setCell ⟨w.heap.size + 1, 1, none⟩ (.slice none 0 0)).setCell ⟨w.heap.size + 1, 2, none⟩ (.int .i64 0)).setCell ⟨w.heap.size + 1, 3, none⟩ (.int .i64 0)).setCell ⟨w.heap.size + 1, 4, none⟩ (.int .i64 0)).setCell ⟨w.heap.size + 1, 5, none⟩ (.slice none 0 0)).setCell ⟨w.heap.size + 1, 6, none⟩ (.int .i64 0)) := ⟨_, rfl⟩
  rw [← hY] at hb7 ho7 ⊢
  have k0 := blk_cell hb7 0
  have k1 := blk_cell hb7 1
  have k2 := blk_cell hb7 2
  have k3 := blk_cell hb7 3
  have k4 := blk_cell hb7 4
  have k5 := blk_cell hb7 5
  have k6 := blk_cell hb7 6
  simp at k0 k1 k2 k3 k4 k5 k6
  refine bodyPost_ret (v := errV 1) ?_ rfl ?_
  · simp [results, Tryz.results49, go_sem, errV, k0, k1, k2, k3, k4, k5, k6]
  · exact ⟨rfl, ((Only.of_below (S := fun _ => False) HB4.out (fun k h1 h2 => by omega)).trans ho7 (fun i hi => .inr (by omega))).below (Nat.le_refl _) (fun _ h => h.elim)⟩
set_option maxRecDepth 100000 in
set_option maxHeartbeats 4000000 in
theorem read_arg2 (w : World) (t : Nat) (σ : Tr) (Ls : List Lay) (_hT : TrAt w t σ Ls) (kk : Int) (s s2 : ByteArray) (off N : Int) (dp : Option Addr) (dl dc : Nat) (_hs : s.size ≤ 16777216) (h0 : ¬ off < 0) (h : N < 0) :
    Calls Tryz.prog 49 #[ptrV t, callV kk s s2 off N (.slice dp dl dc)] w fun x w' => x = .returned (errV 1) ∧ Below w.heap.size w w' := by
  unfold callV ptrV at *
  go_enter Tryz.func49, Tryz.ntmps49
  go_wp2_with fail
  obtain ⟨X, hX⟩ : ∃ X, X = (w.alloc (.cells #[.int .i64 kk, .string s, .string s2, .int .i64 off, .int .i64 N, .slice dp dl dc] 33)).alloc (.cells #[.int .i64 0, .slice none 0 0, .int .i64 0, .int .i64 0, .int .i64 0, .slice none 0 0, .int .i64 0] 37) := ⟨_, rfl⟩
  have hXB : Below w.heap.size w X := by rw [hX]; exact ((Below.refl _ w).alloc (Nat.le_refl _) _).alloc (by simp) _
  have hXs : X.heap.size = w.heap.size + 2 := by rw [hX]; simp
  have hX0 : X.heap[w.heap.size]? = some (.cells #[.int .i64 kk, .string s, .string s2, .int .i64 off, .int .i64 N, .slice dp dl dc] 33 (0, 0)) := by rw [hX, Below.heap_alloc _ _ _ (by simp)]; exact blk_new w _
  have hX1 : X.heap[w.heap.size + 1]? = some (.cells #[.int .i64 0, .slice none 0 0, .int .i64 0, .int .i64 0, .int .i64 0, .slice none 0 0, .int .i64 0] 37 (0, 0)) := by
    rw [hX]
    have := blk_new (w.alloc (.cells #[.int .i64 kk, .string s, .string s2, .int .i64 off, .int .i64 N, .slice dp dl dc] 33)) (.cells #[.int .i64 0, .slice none 0 0, .int .i64 0, .int .i64 0, .int .i64 0, .slice none 0 0, .int .i64 0] 37)
    rwa [World.size_alloc] at this
  rw [← hX]
  clear hX
  have f1 := blk_cell hX0 1
  have f3 := blk_cell hX0 3
  have f4 := blk_cell hX0 4
  simp at f1 f3 f4
  have HXB := Hid.mk hXB
  have HXS := Hid.mk hXs
  have HX0 := Hid.mk hX0
  have HX1 := Hid.mk hX1
  clear hXB hXs hX0 hX1
  go_wp2_with (go_at_call 34; refine (failed_any _ _).mono ?_; rintro e' W4 ⟨rfl, hb4⟩; have hbx := (hb4.block _ (lt_of_block HX1.out)).trans HX1.out; have z0 := blk_cell hbx 0; have y0 := blk_free hbx 0; have z1 := blk_cell hbx 1; have y1 := blk_free hbx 1; have z2 := blk_cell hbx 2; have y2 := blk_free hbx 2; have z3 := blk_cell hbx 3; have y3 := blk_free hbx 3; have z4 := blk_cell hbx 4; have y4 := blk_free hbx 4; have z5 := blk_cell hbx 5; have y5 := blk_free hbx 5; have z6 := blk_cell hbx 6; have y6 := blk_free hbx 6; simp at z0 z1 z2 z3 z4 z5 z6; have BXX := Hid.mk hbx; have HB4 := Hid.mk (HXB.out.trans (hb4.mono HXB.out.size)); unfold errV; clear hbx hb4)
  have hb7 := (box7 BXX.out (.int .i64 1) (.slice none 0 0) (.int .i64 0) (.int .i64 0) (.int .i64 0) (.slice none 0 0) (.int .i64 0)).1
  have ho7 := (box7 BXX.out (.int .i64 1) (.slice none 0 0) (.int .i64 0) (.int .i64 0) (.int .i64 0) (.slice none 0 0) (.int .i64 0)).2
  obtain ⟨Y, hY⟩ : ∃ Y, Y = (((((((W4.setCell ⟨w.heap.size + 1, 0, none⟩ (.int .i64 1)).setCell ⟨w.heap.size + 1, 1, none⟩ (.slice none 0 0)).setCell ⟨w.heap.size + 1, 2, none⟩ (.int .i64 0)).setCell ⟨w.heap.size + 1, 3, none⟩ (.int .i64 0)).setCell ⟨w.heap.size + 1, 4, none⟩ (.int .i64 0)).setCell ⟨w.heap.size + 1, 5, none⟩ (.slice none 0 0)).setCell ⟨w.heap.size + 1, 6, none⟩ (.int .i64 0)) := ⟨_, rfl⟩
  rw [← hY] at hb7 ho7 ⊢
  have k0 := blk_cell hb7 0
  have k1 := blk_cell hb7 1
  have k2 := blk_cell hb7 2
  have k3 := blk_cell hb7 3
  have k4 := blk_cell hb7 4
  have k5 := blk_cell hb7 5
  have k6 := blk_cell hb7 6
  simp at k0 k1 k2 k3 k4 k5 k6
  refine bodyPost_ret (v := errV 1) ?_ rfl ?_
  · simp [results, Tryz.results49, go_sem, errV, k0, k1, k2, k3, k4, k5, k6]
  · exact ⟨rfl, ((Only.of_below (S := fun _ => False) HB4.out (fun k h1 h2 => by omega)).trans ho7 (fun i hi => .inr (by omega))).below (Nat.le_refl _) (fun _ h => h.elim)⟩
set_option maxRecDepth 100000 in
set_option maxHeartbeats 4000000 in
theorem read_arg3 (w : World) (t : Nat) (σ : Tr) (Ls : List Lay) (_hT : TrAt w t σ Ls) (kk : Int) (s s2 : ByteArray) (off N : Int) (dp : Option Addr) (dl dc : Nat) (_hs : s.size ≤ 16777216) (h0 : ¬ off < 0) (h1 : ¬ N < 0) (h : 8192 < N) :
    Calls Tryz.prog 49 #[ptrV t, callV kk s s2 off N (.slice dp dl dc)] w fun x w' => x = .returned (errV 1) ∧ Below w.heap.size w w' := by
  unfold callV ptrV at *
  go_enter Tryz.func49, Tryz.ntmps49
  go_wp2_with fail
  obtain ⟨X, hX⟩ : ∃ X, X = (w.alloc (.cells #[.int .i64 kk, .string s, .string s2, .int .i64 off, .int .i64 N, .slice dp dl dc] 33)).alloc (.cells #[.int .i64 0, .slice none 0 0, .int .i64 0, .int .i64 0, .int .i64 0, .slice none 0 0, .int .i64 0] 37) := ⟨_, rfl⟩
  have hXB : Below w.heap.size w X := by rw [hX]; exact ((Below.refl _ w).alloc (Nat.le_refl _) _).alloc (by simp) _
  have hXs : X.heap.size = w.heap.size + 2 := by rw [hX]; simp
  have hX0 : X.heap[w.heap.size]? = some (.cells #[.int .i64 kk, .string s, .string s2, .int .i64 off, .int .i64 N, .slice dp dl dc] 33 (0, 0)) := by rw [hX, Below.heap_alloc _ _ _ (by simp)]; exact blk_new w _
  have hX1 : X.heap[w.heap.size + 1]? = some (.cells #[.int .i64 0, .slice none 0 0, .int .i64 0, .int .i64 0, .int .i64 0, .slice none 0 0, .int .i64 0] 37 (0, 0)) := by
    rw [hX]
    have := blk_new (w.alloc (.cells #[.int .i64 kk, .string s, .string s2, .int .i64 off, .int .i64 N, .slice dp dl dc] 33)) (.cells #[.int .i64 0, .slice none 0 0, .int .i64 0, .int .i64 0, .int .i64 0, .slice none 0 0, .int .i64 0] 37)
    rwa [World.size_alloc] at this
  rw [← hX]
  clear hX
  have f1 := blk_cell hX0 1
  have f3 := blk_cell hX0 3
  have f4 := blk_cell hX0 4
  simp at f1 f3 f4
  have HXB := Hid.mk hXB
  have HXS := Hid.mk hXs
  have HX0 := Hid.mk hX0
  have HX1 := Hid.mk hX1
  clear hXB hXs hX0 hX1
  go_wp2_with (go_at_call 34; refine (failed_any _ _).mono ?_; rintro e' W4 ⟨rfl, hb4⟩; have hbx := (hb4.block _ (lt_of_block HX1.out)).trans HX1.out; have z0 := blk_cell hbx 0; have y0 := blk_free hbx 0; have z1 := blk_cell hbx 1; have y1 := blk_free hbx 1; have z2 := blk_cell hbx 2; have y2 := blk_free hbx 2; have z3 := blk_cell hbx 3; have y3 := blk_free hbx 3; have z4 := blk_cell hbx 4; have y4 := blk_free hbx 4; have z5 := blk_cell hbx 5; have y5 := blk_free hbx 5; have z6 := blk_cell hbx 6; have y6 := blk_free hbx 6; simp at z0 z1 z2 z3 z4 z5 z6; have BXX := Hid.mk hbx; have HB4 := Hid.mk (HXB.out.trans (hb4.mono HXB.out.size)); unfold errV; clear hbx hb4)
  have hb7 := (box7 BXX.out (.int .i64 1) (.slice none 0 0) (.int .i64 0) (.int .i64 0) (.int .i64 0) (.slice none 0 0) (.int .i64 0)).1
  have ho7 := (box7 BXX.out (.int .i64 1) (.slice none 0 0) (.int .i64 0) (.int .i64 0) (.int .i64 0) (.slice none 0 0) (.int .i64 0)).2
  obtain ⟨Y, hY⟩ : ∃ Y, Y = (((((((W4.setCell ⟨w.heap.size + 1, 0, none⟩ (.int .i64 1)).setCell ⟨w.heap.size + 1, 1, none⟩ (.slice none 0 0)).setCell ⟨w.heap.size + 1, 2, none⟩ (.int .i64 0)).setCell ⟨w.heap.size + 1, 3, none⟩ (.int .i64 0)).setCell ⟨w.heap.size + 1, 4, none⟩ (.int .i64 0)).setCell ⟨w.heap.size + 1, 5, none⟩ (.slice none 0 0)).setCell ⟨w.heap.size + 1, 6, none⟩ (.int .i64 0)) := ⟨_, rfl⟩
  rw [← hY] at hb7 ho7 ⊢
  have k0 := blk_cell hb7 0
  have k1 := blk_cell hb7 1
  have k2 := blk_cell hb7 2
  have k3 := blk_cell hb7 3
  have k4 := blk_cell hb7 4
  have k5 := blk_cell hb7 5
  have k6 := blk_cell hb7 6
  simp at k0 k1 k2 k3 k4 k5 k6
  refine bodyPost_ret (v := errV 1) ?_ rfl ?_
  · simp [results, Tryz.results49, go_sem, errV, k0, k1, k2, k3, k4, k5, k6]
  · exact ⟨rfl, ((Only.of_below (S := fun _ => False) HB4.out (fun k h1 h2 => by omega)).trans ho7 (fun i hi => .inr (by omega))).below (Nat.le_refl _) (fun _ h => h.elim)⟩
set_option maxRecDepth 100000 in
set_option maxHeartbeats 4000000 in
theorem read_no (w : World) (t : Nat) (σ : Tr) (Ls : List Lay) (hT : TrAt w t σ Ls) (kk : Int) (s s2 : ByteArray) (off N : Int) (dp : Option Addr) (dl dc : Nat) (hs : s.size ≤ 16777216) (h0 : ¬ off < 0) (h1 : ¬ N < 0) (h2 : ¬ 8192 < N) (e : Int) (he : fileE σ.nodes (ofS s) = (none, e)) (hne : e ≠ 0) :
    Calls Tryz.prog 49 #[ptrV t, callV kk s s2 off N (.slice dp dl dc)] w fun x w' => x = .returned (errV e) ∧ Below w.heap.size w w' := by
  have HFI : Hid (∀ W, Below w.heap.size w W → _) := Hid.mk (fun W (hB : Below w.heap.size w W) => file_any W t σ Ls (hT.below rfl hB) s hs)
  rw [he] at HFI
  simp only [optV, ptrV] at HFI
  clear hT hs he
  unfold callV ptrV at *
  go_enter Tryz.func49, Tryz.ntmps49
  go_wp2_with fail
  obtain ⟨X, hX⟩ : ∃ X, X = (w.alloc (.cells #[.int .i64 kk, .string s, .string s2, .int .i64 off, .int .i64 N, .slice dp dl dc] 33)).alloc (.cells #[.int .i64 0, .slice none 0 0, .int .i64 0, .int .i64 0, .int .i64 0, .slice none 0 0, .int .i64 0] 37) := ⟨_, rfl⟩
  have hXB : Below w.heap.size w X := by rw [hX]; exact ((Below.refl _ w).alloc (Nat.le_refl _) _).alloc (by simp) _
  have hXs : X.heap.size = w.heap.size + 2 := by rw [hX]; simp
  have hX0 : X.heap[w.heap.size]? = some (.cells #[.int .i64 kk, .string s, .string s2, .int .i64 off, .int .i64 N, .slice dp dl dc] 33 (0, 0)) := by rw [hX, Below.heap_alloc _ _ _ (by simp)]; exact blk_new w _
  have hX1 : X.heap[w.heap.size + 1]? = some (.cells #[.int .i64 0, .slice none 0 0, .int .i64 0, .int .i64 0, .int .i64 0, .slice none 0 0, .int .i64 0] 37 (0, 0)) := by
    rw [hX]
    have := blk_new (w.alloc (.cells #[.int .i64 kk, .string s, .string s2, .int .i64 off, .int .i64 N, .slice dp dl dc] 33)) (.cells #[.int .i64 0, .slice none 0 0, .int .i64 0, .int .i64 0, .int .i64 0, .slice none 0 0, .int .i64 0] 37)
    rwa [World.size_alloc] at this
  rw [← hX]
  clear hX
  have f1 := blk_cell hX0 1
  have f3 := blk_cell hX0 3
  have f4 := blk_cell hX0 4
  simp at f1 f3 f4
  have HXB := Hid.mk hXB
  have HXS := Hid.mk hXs
  have HX0 := Hid.mk hX0
  have HX1 := Hid.mk hX1
  clear hXB hXs hX0 hX1
  go_wp2_with (first
    | (go_at_call 88; refine (HFI.out X HXB.out).mono ?_; rintro e' W1 ⟨rfl, hB1⟩
       have hx1 := (hB1.block _ (lt_of_block HX1.out)).trans HX1.out
       have HY1 : Hid ((W1.alloc (.cells #[.pointer none] 68)).heap[w.heap.size + 1]? = _) := Hid.mk ((Below.heap_alloc _ _ _ (lt_of_block hx1)).trans hx1)
       have HB1 : Hid (Below w.heap.size w (W1.alloc (.cells #[.pointer none] 68))) := Hid.mk (by have := HXB.out.trans (hB1.mono HXB.out.size); exact this.alloc this.size _)
       clear hB1 hx1 f1 f3 f4)
    | (go_at_call 34; refine (failed_any _ _).mono ?_; rintro e' W4 ⟨rfl, hb4⟩; have hbx := (hb4.block _ (lt_of_block HY1.out)).trans HY1.out; have z0 := blk_cell hbx 0; have y0 := blk_free hbx 0; have z1 := blk_cell hbx 1; have y1 := blk_free hbx 1; have z2 := blk_cell hbx 2; have y2 := blk_free hbx 2; have z3 := blk_cell hbx 3; have y3 := blk_free hbx 3; have z4 := blk_cell hbx 4; have y4 := blk_free hbx 4; have z5 := blk_cell hbx 5; have y5 := blk_free hbx 5; have z6 := blk_cell hbx 6; have y6 := blk_free hbx 6; simp at z0 z1 z2 z3 z4 z5 z6; have BXX := Hid.mk hbx; have HB4 := Hid.mk (HB1.out.trans (hb4.mono HB1.out.size)); unfold errV; clear hbx hb4))
  have hb7 := (box7 BXX.out (.int .i64 e) (.slice none 0 0) (.int .i64 0) (.int .i64 0) (.int .i64 0) (.slice none 0 0) (.int .i64 0)).1
  have ho7 := (box7 BXX.out (.int .i64 e) (.slice none 0 0) (.int .i64 0) (.int .i64 0) (.int .i64 0) (.slice none 0 0) (.int .i64 0)).2
  obtain ⟨Y, hY⟩ : ∃ Y, Y = (((((((W4.setCell ⟨w.heap.size + 1, 0, none⟩ (.int .i64 e)).setCell ⟨w.heap.size + 1, 1, none⟩ (.slice none 0 0)).setCell ⟨w.heap.size + 1, 2, none⟩ (.int .i64 0)).setCell ⟨w.heap.size + 1, 3, none⟩ (.int .i64 0)).setCell ⟨w.heap.size + 1, 4, none⟩ (.int .i64 0)).setCell ⟨w.heap.size + 1, 5, none⟩ (.slice none 0 0)).setCell ⟨w.heap.size + 1, 6, none⟩ (.int .i64 0)) := ⟨_, rfl⟩
  rw [← hY] at hb7 ho7 ⊢
  have k0 := blk_cell hb7 0
  have k1 := blk_cell hb7 1
  have k2 := blk_cell hb7 2
  have k3 := blk_cell hb7 3
  have k4 := blk_cell hb7 4
  have k5 := blk_cell hb7 5
  have k6 := blk_cell hb7 6
  simp at k0 k1 k2 k3 k4 k5 k6
  refine bodyPost_ret (v := errV e) ?_ rfl ?_
  · simp [results, Tryz.results49, go_sem, errV, k0, k1, k2, k3, k4, k5, k6]
  · exact ⟨rfl, ((Only.of_below (S := fun _ => False) HB4.out (fun k h1 h2 => by omega)).trans ho7 (fun i hi => .inr (by omega))).below (Nat.le_refl _) (fun _ h => h.elim)⟩
set_option maxRecDepth 100000 in
set_option maxHeartbeats 4000000 in
theorem write_arg1 (w : World) (t : Nat) (σ : Tr) (Ls : List Lay) (_hT : TrAt w t σ Ls) (kk : Int) (s s2 : ByteArray) (off N : Int) (dp : Option Addr) (dl dc : Nat) (_hs : s.size ≤ 16777216) (h : off < 0) :
    Calls Tryz.prog 50 #[ptrV t, callV kk s s2 off N (.slice dp dl dc)] w fun x w' => x = .returned (errV 1) ∧ Below w.heap.size w w' := by
  unfold callV ptrV at *
  go_enter Tryz.func50, Tryz.ntmps50
  go_wp2_with fail
  obtain ⟨X, hX⟩ : ∃ X, X = (w.alloc (.cells #[.int .i64 kk, .string s, .string s2, .int .i64 off, .int .i64 N, .slice dp dl dc] 33)).alloc (.cells #[.int .i64 0, .slice none 0 0, .int .i64 0, .int .i64 0, .int .i64 0, .slice none 0 0, .int .i64 0] 37) := ⟨_, rfl⟩
  have hXB : Below w.heap.size w X := by rw [hX]; exact ((Below.refl _ w).alloc (Nat.le_refl _) _).alloc (by simp) _
  have hXs : X.heap.size = w.heap.size + 2 := by rw [hX]; simp
  have hX0 : X.heap[w.heap.size]? = some (.cells #[.int .i64 kk, .string s, .string s2, .int .i64 off, .int .i64 N, .slice dp dl dc] 33 (0, 0)) := by rw [hX, Below.heap_alloc _ _ _ (by simp)]; exact blk_new w _
  have hX1 : X.heap[w.heap.size + 1]? = some (.cells #[.int .i64 0, .slice none 0 0, .int .i64 0, .int .i64 0, .int .i64 0, .slice none 0 0, .int .i64 0] 37 (0, 0)) := by
    rw [hX]
    have := blk_new (w.alloc (.cells #[.int .i64 kk, .string s, .string s2, .int .i64 off, .int .i64 N, .slice dp dl dc] 33)) (.cells #[.int .i64 0, .slice none 0 0, .int .i64 0, .int .i64 0, .int .i64 0, .slice none 0 0, .int .i64 0] 37)
    rwa [World.size_alloc] at this
  rw [← hX]
  clear hX
  have f1 := blk_cell hX0 1
  have f3 := blk_cell hX0 3
  have f5 := blk_cell hX0 5
  simp at f1 f3 f5
  have HXB := Hid.mk hXB
  have HXS := Hid.mk hXs
  have HX0 := Hid.mk hX0
  have HX1 := Hid.mk hX1
  clear hXB hXs hX0 hX1
  go_wp2_with (go_at_call 34; refine (failed_any _ _).mono ?_; rintro e' W4 ⟨rfl, hb4⟩; have hbx := (hb4.block _ (lt_of_block HX1.out)).trans HX1.out; have z0 := blk_cell hbx 0; have y0 := blk_free hbx 0; have z1 := blk_cell hbx 1; have y1 := blk_free hbx 1; have z2 := blk_cell hbx 2; have y2 := blk_free hbx 2; have z3 := blk_cell hbx 3; have y3 := blk_free hbx 3; have z4 := blk_cell hbx 4; have y4 := blk_free hbx 4; have z5 := blk_cell hbx 5; have y5 := blk_free hbx 5; have z6 := blk_cell hbx 6; have y6 := blk_free hbx 6; simp at z0 z1 z2 z3 z4 z5 z6; have BXX := Hid.mk hbx; have HB4 := Hid.mk (HXB.out.trans (hb4.mono HXB.out.size)); unfold errV; clear hbx hb4)
  have hb7 := (box7 BXX.out (.int .i64 1) (.slice none 0 0) (.int .i64 0) (.int .i64 0) (.int .i64 0) (.slice none 0 0) (.int .i64 0)).1
  have ho7 := (box7 BXX.out (.int .i64 1) (.slice none 0 0) (.int .i64 0) (.int .i64 0) (.int .i64 0) (.slice none 0 0) (.int .i64 0)).2
  obtain ⟨Y, hY⟩ : ∃ Y, Y = (((((((W4.setCell ⟨w.heap.size + 1, 0, none⟩ (.int .i64 1)).setCell ⟨w.heap.size + 1, 1, none⟩ (.slice none 0 0)).setCell ⟨w.heap.size + 1, 2, none⟩ (.int .i64 0)).setCell ⟨w.heap.size + 1, 3, none⟩ (.int .i64 0)).setCell ⟨w.heap.size + 1, 4, none⟩ (.int .i64 0)).setCell ⟨w.heap.size + 1, 5, none⟩ (.slice none 0 0)).setCell ⟨w.heap.size + 1, 6, none⟩ (.int .i64 0)) := ⟨_, rfl⟩
  rw [← hY] at hb7 ho7 ⊢
  have k0 := blk_cell hb7 0
  have k1 := blk_cell hb7 1
  have k2 := blk_cell hb7 2
  have k3 := blk_cell hb7 3
  have k4 := blk_cell hb7 4
  have k5 := blk_cell hb7 5
  have k6 := blk_cell hb7 6
  simp at k0 k1 k2 k3 k4 k5 k6
  refine bodyPost_ret (v := errV 1) ?_ rfl ?_
  · simp [results, Tryz.results50, go_sem, errV, k0, k1, k2, k3, k4, k5, k6]
  · exact ⟨rfl, ((Only.of_below (S := fun _ => False) HB4.out (fun k h1 h2 => by omega)).trans ho7 (fun i hi => .inr (by omega))).below (Nat.le_refl _) (fun _ h => h.elim)⟩
set_option maxRecDepth 100000 in
set_option maxHeartbeats 4000000 in
theorem write_arg2 (w : World) (t : Nat) (σ : Tr) (Ls : List Lay) (_hT : TrAt w t σ Ls) (kk : Int) (s s2 : ByteArray) (off N : Int) (dp : Option Addr) (dl dc : Nat) (_hs : s.size ≤ 16777216) (h0 : ¬ off < 0) (h : (8192 : Int) < (dl : Int)) :
    Calls Tryz.prog 50 #[ptrV t, callV kk s s2 off N (.slice dp dl dc)] w fun x w' => x = .returned (errV 1) ∧ Below w.heap.size w w' := by
  unfold callV ptrV at *
  go_enter Tryz.func50, Tryz.ntmps50
  go_wp2_with fail
  obtain ⟨X, hX⟩ : ∃ X, X = (w.alloc (.cells #[.int .i64 kk, .string s, .string s2, .int .i64 off, .int .i64 N, .slice dp dl dc] 33)).alloc (.cells #[.int .i64 0, .slice none 0 0, .int .i64 0, .int .i64 0, .int .i64 0, .slice none 0 0, .int .i64 0] 37) := ⟨_, rfl⟩
  have hXB : Below w.heap.size w X := by rw [hX]; exact ((Below.refl _ w).alloc (Nat.le_refl _) _).alloc (by simp) _
  have hXs : X.heap.size = w.heap.size + 2 := by rw [hX]; simp
  have hX0 : X.heap[w.heap.size]? = some (.cells #[.int .i64 kk, .string s, .string s2, .int .i64 off, .int .i64 N, .slice dp dl dc] 33 (0, 0)) := by rw [hX, Below.heap_alloc _ _ _ (by simp)]; exact blk_new w _
  have hX1 : X.heap[w.heap.size + 1]? = some (.cells #[.int .i64 0, .slice none 0 0, .int .i64 0, .int .i64 0, .int .i64 0, .slice none 0 0, .int .i64 0] 37 (0, 0)) := by
    rw [hX]
    have := blk_new (w.alloc (.cells #[.int .i64 kk, .string s, .string s2, .int .i64 off, .int .i64 N, .slice dp dl dc] 33)) (.cells #[.int .i64 0, .slice none 0 0, .int .i64 0, .int .i64 0, .int .i64 0, .slice none 0 0, .int .i64 0] 37)
    rwa [World.size_alloc] at this
  rw [← hX]
  clear hX
  have f1 := blk_cell hX0 1
  have f3 := blk_cell hX0 3
  have f5 := blk_cell hX0 5
  simp at f1 f3 f5
  have HXB := Hid.mk hXB
  have HXS := Hid.mk hXs
  have HX0 := Hid.mk hX0
  have HX1 := Hid.mk hX1
  clear hXB hXs hX0 hX1
  go_wp2_with (go_at_call 34; refine (failed_any _ _).mono ?_; rintro e' W4 ⟨rfl, hb4⟩; have hbx := (hb4.block _ (lt_of_block HX1.out)).trans HX1.out; have z0 := blk_cell hbx 0; have y0 := blk_free hbx 0; have z1 := blk_cell hbx 1; have y1 := blk_free hbx 1; have z2 := blk_cell hbx 2; have y2 := blk_free hbx 2; have z3 := blk_cell hbx 3; have y3 := blk_free hbx 3; have z4 := blk_cell hbx 4; have y4 := blk_free hbx 4; have z5 := blk_cell hbx 5; have y5 := blk_free hbx 5; have z6 := blk_cell hbx 6; have y6 := blk_free hbx 6; simp at z0 z1 z2 z3 z4 z5 z6; have BXX := Hid.mk hbx; have HB4 := Hid.mk (HXB.out.trans (hb4.mono HXB.out.size)); unfold errV; clear hbx hb4)
  have hb7 := (box7 BXX.out (.int .i64 1) (.slice none 0 0) (.int .i64 0) (.int .i64 0) (.int .i64 0) (.slice none 0 0) (.int .i64 0)).1
  have ho7 := (box7 BXX.out (.int .i64 1) (.slice none 0 0) (.int .i64 0) (.int .i64 0) (.int .i64 0) (.slice none 0 0) (.int .i64 0)).2
  obtain ⟨Y, hY⟩ : ∃ Y, Y = (((((((W4.setCell ⟨w.heap.size + 1, 0, none⟩ (.int .i64 1)).setCell ⟨w.heap.size + 1, 1, none⟩ (.slice none 0 0)).setCell ⟨w.heap.size + 1, 2, none⟩ (.int .i64 0)).setCell ⟨w.heap.size + 1, 3, none⟩ (.int .i64 0)).setCell ⟨w.heap.size + 1, 4, none⟩ (.int .i64 0)).setCell ⟨w.heap.size + 1, 5, none⟩ (.slice none 0 0)).setCell ⟨w.heap.size + 1, 6, none⟩ (.int .i64 0)) := ⟨_, rfl⟩
  rw [← hY] at hb7 ho7 ⊢
  have k0 := blk_cell hb7 0
  have k1 := blk_cell hb7 1
  have k2 := blk_cell hb7 2
  have k3 := blk_cell hb7 3
  have k4 := blk_cell hb7 4
  have k5 := blk_cell hb7 5
  have k6 := blk_cell hb7 6
  simp at k0 k1 k2 k3 k4 k5 k6
  refine bodyPost_ret (v := errV 1) ?_ rfl ?_
  · simp [results, Tryz.results50, go_sem, errV, k0, k1, k2, k3, k4, k5, k6]
  · exact ⟨rfl, ((Only.of_below (S := fun _ => False) HB4.out (fun k h1 h2 => by omega)).trans ho7 (fun i hi => .inr (by omega))).below (Nat.le_refl _) (fun _ h => h.elim)⟩
set_option maxRecDepth 100000 in
set_option maxHeartbeats 4000000 in
theorem write_no (w : World) (t : Nat) (σ : Tr) (Ls : List Lay) (hT : TrAt w t σ Ls) (kk : Int) (s s2 : ByteArray) (off N : Int) (dp : Option Addr) (dl dc : Nat) (hs : s.size ≤ 16777216) (h0 : ¬ off < 0) (h1 : ¬ (8192 : Int) < (dl : Int)) (e : Int) (he : fileE σ.nodes (ofS s) = (none, e)) (hne : e ≠ 0) :
    Calls Tryz.prog 50 #[ptrV t, callV kk s s2 off N (.slice dp dl dc)] w fun x w' => x = .returned (errV e) ∧ Below w.heap.size w w' := by
  have HFI : Hid (∀ W, Below w.heap.size w W → _) := Hid.mk (fun W (hB : Below w.heap.size w W) => file_any W t σ Ls (hT.below rfl hB) s hs)
  rw [he] at HFI
  simp only [optV, ptrV] at HFI
  clear hT hs he
  unfold callV ptrV at *
  go_enter Tryz.func50, Tryz.ntmps50
  go_wp2_with fail
  obtain ⟨X, hX⟩ : ∃ X, X = (w.alloc (.cells #[.int .i64 kk, .string s, .string s2, .int .i64 off, .int .i64 N, .slice dp dl dc] 33)).alloc (.cells #[.int .i64 0, .slice none 0 0, .int .i64 0, .int .i64 0, .int .i64 0, .slice none 0 0, .int .i64 0] 37) := ⟨_, rfl⟩
  have hXB : Below w.heap.size w X := by rw [hX]; exact ((Below.refl _ w).alloc (Nat.le_refl _) _).alloc (by simp) _
  have hXs : X.heap.size = w.heap.size + 2 := by rw [hX]; simp
  have hX0 : X.heap[w.heap.size]? = some (.cells #[.int .i64 kk, .string s, .string s2, .int .i64 off, .int .i64 N, .slice dp dl dc] 33 (0, 0)) := by rw [hX, Below.heap_alloc _ _ _ (by simp)]; exact blk_new w _
  have hX1 : X.heap[w.heap.size + 1]? = some (.cells #[.int .i64 0, .slice none 0 0, .int .i64 0, .int .i64 0, .int .i64 0, .slice none 0 0, .int .i64 0] 37 (0, 0)) := by
    rw [hX]
    have := blk_new (w.alloc (.cells #[.int .i64 kk, .string s, .string s2, .int .i64 off, .int .i64 N, .slice dp dl dc] 33)) (.cells #[.int .i64 0, .slice none 0 0, .int .i64 0, .int .i64 0, .int .i64 0, .slice none 0 0, .int .i64 0] 37)
    rwa [World.size_alloc] at this
  rw [← hX]
  clear hX
  have f1 := blk_cell hX0 1
  have f3 := blk_cell hX0 3
  have f5 := blk_cell hX0 5
  simp at f1 f3 f5
  have HXB := Hid.mk hXB
  have HXS := Hid.mk hXs
  have HX0 := Hid.mk hX0
  have HX1 := Hid.mk hX1
  clear hXB hXs hX0 hX1
  go_wp2_with (first
    | (go_at_call 88; refine (HFI.out X HXB.out).mono ?_; rintro e' W1 ⟨rfl, hB1⟩
       have hx1 := (hB1.block _ (lt_of_block HX1.out)).trans HX1.out
       have HY1 : Hid ((W1.alloc (.cells #[.pointer none] 68)).heap[w.heap.size + 1]? = _) := Hid.mk ((Below.heap_alloc _ _ _ (lt_of_block hx1)).trans hx1)
       have HB1 : Hid (Below w.heap.size w (W1.alloc (.cells #[.pointer none] 68))) := Hid.mk (by have := HXB.out.trans (hB1.mono HXB.out.size); exact this.alloc this.size _)
       clear hB1 hx1 f1 f3 f5)
    | (go_at_call 34; refine (failed_any _ _).mono ?_; rintro e' W4 ⟨rfl, hb4⟩; have hbx := (hb4.block _ (lt_of_block HY1.out)).trans HY1.out; have z0 := blk_cell hbx 0; have y0 := blk_free hbx 0; have z1 := blk_cell hbx 1; have y1 := blk_free hbx 1; have z2 := blk_cell hbx 2; have y2 := blk_free hbx 2; have z3 := blk_cell hbx 3; have y3 := blk_free hbx 3; have z4 := blk_cell hbx 4; have y4 := blk_free hbx 4; have z5 := blk_cell hbx 5; have y5 := blk_free hbx 5; have z6 := blk_cell hbx 6; have y6 := blk_free hbx 6; simp at z0 z1 z2 z3 z4 z5 z6; have BXX := Hid.mk hbx; have HB4 := Hid.mk (HB1.out.trans (hb4.mono HB1.out.size)); unfold errV; clear hbx hb4))
  have hb7 := (box7 BXX.out (.int .i64 e) (.slice none 0 0) (.int .i64 0) (.int .i64 0) (.int .i64 0) (.slice none 0 0) (.int .i64 0)).1
  have ho7 := (box7 BXX.out (.int .i64 e) (.slice none 0 0) (.int .i64 0) (.int .i64 0) (.int .i64 0) (.slice none 0 0) (.int .i64 0)).2
  obtain ⟨Y, hY⟩ : ∃ Y, Y = (((((((W4.setCell ⟨w.heap.size + 1, 0, none⟩ (.int .i64 e)).setCell ⟨w.heap.size + 1, 1, none⟩ (.slice none 0 0)).setCell ⟨w.heap.size + 1, 2, none⟩ (.int .i64 0)).setCell ⟨w.heap.size + 1, 3, none⟩ (.int .i64 0)).setCell ⟨w.heap.size + 1, 4, none⟩ (.int .i64 0)).setCell ⟨w.heap.size + 1, 5, none⟩ (.slice none 0 0)).setCell ⟨w.heap.size + 1, 6, none⟩ (.int .i64 0)) := ⟨_, rfl⟩
  rw [← hY] at hb7 ho7 ⊢
  have k0 := blk_cell hb7 0
  have k1 := blk_cell hb7 1
  have k2 := blk_cell hb7 2
  have k3 := blk_cell hb7 3
  have k4 := blk_cell hb7 4
  have k5 := blk_cell hb7 5
  have k6 := blk_cell hb7 6
  simp at k0 k1 k2 k3 k4 k5 k6
  refine bodyPost_ret (v := errV e) ?_ rfl ?_
  · simp [results, Tryz.results50, go_sem, errV, k0, k1, k2, k3, k4, k5, k6]
  · exact ⟨rfl, ((Only.of_below (S := fun _ => False) HB4.out (fun k h1 h2 => by omega)).trans ho7 (fun i hi => .inr (by omega))).below (Nat.le_refl _) (fun _ h => h.elim)⟩
set_option maxRecDepth 100000 in
set_option maxHeartbeats 4000000 in
theorem trunc_arg (w : World) (t : Nat) (σ : Tr) (Ls : List Lay) (_hT : TrAt w t σ Ls) (kk : Int) (s s2 : ByteArray) (off N : Int) (dp : Option Addr) (dl dc : Nat) (_hs : s.size ≤ 16777216) (h : N < 0) :
    Calls Tryz.prog 51 #[ptrV t, callV kk s s2 off N (.slice dp dl dc)] w fun x w' => x = .returned (errV 1) ∧ Below w.heap.size w w' := by
  unfold callV ptrV at *
  go_enter Tryz.func51, Tryz.ntmps51
  go_wp2_with fail
  obtain ⟨X, hX⟩ : ∃ X, X = (w.alloc (.cells #[.int .i64 kk, .string s, .string s2, .int .i64 off, .int .i64 N, .slice dp dl dc] 33)).alloc (.cells #[.int .i64 0, .slice none 0 0, .int .i64 0, .int .i64 0, .int .i64 0, .slice none 0 0, .int .i64 0] 37) := ⟨_, rfl⟩
  have hXB : Below w.heap.size w X := by rw [hX]; exact ((Below.refl _ w).alloc (Nat.le_refl _) _).alloc (by simp) _
  have hXs : X.heap.size = w.heap.size + 2 := by rw [hX]; simp
  have hX0 : X.heap[w.heap.size]? = some (.cells #[.int .i64 kk, .string s, .string s2, .int .i64 off, .int .i64 N, .slice dp dl dc] 33 (0, 0)) := by rw [hX, Below.heap_alloc _ _ _ (by simp)]; exact blk_new w _
  have hX1 : X.heap[w.heap.size + 1]? = some (.cells #[.int .i64 0, .slice none 0 0, .int .i64 0, .int .i64 0, .int .i64 0, .slice none 0 0, .int .i64 0] 37 (0, 0)) := by
    rw [hX]
    have := blk_new (w.alloc (.cells #[.int .i64 kk, .string s, .string s2, .int .i64 off, .int .i64 N, .slice dp dl dc] 33)) (.cells #[.int .i64 0, .slice none 0 0, .int .i64 0, .int .i64 0, .int .i64 0, .slice none 0 0, .int .i64 0] 37)
    rwa [World.size_alloc] at this
  rw [← hX]
  clear hX
  have f1 := blk_cell hX0 1
  have f4 := blk_cell hX0 4
  simp at f1 f4
  have HXB := Hid.mk hXB
  have HXS := Hid.mk hXs
  have HX0 := Hid.mk hX0
  have HX1 := Hid.mk hX1
  clear hXB hXs hX0 hX1
  go_wp2_with (go_at_call 34; refine (failed_any _ _).mono ?_; rintro e' W4 ⟨rfl, hb4⟩; have hbx := (hb4.block _ (lt_of_block HX1.out)).trans HX1.out; have z0 := blk_cell hbx 0; have y0 := blk_free hbx 0; have z1 := blk_cell hbx 1; have y1 := blk_free hbx 1; have z2 := blk_cell hbx 2; have y2 := blk_free hbx 2; have z3 := blk_cell hbx 3; have y3 := blk_free hbx 3; have z4 := blk_cell hbx 4; have y4 := blk_free hbx 4; have z5 := blk_cell hbx 5; have y5 := blk_free hbx 5; have z6 := blk_cell hbx 6; have y6 := blk_free hbx 6; simp at z0 z1 z2 z3 z4 z5 z6; have BXX := Hid.mk hbx; have HB4 := Hid.mk (HXB.out.trans (hb4.mono HXB.out.size)); unfold errV; clear hbx hb4)
  have hb7 := (box7 BXX.out (.int .i64 1) (.slice none 0 0) (.int .i64 0) (.int .i64 0) (.int .i64 0) (.slice none 0 0) (.int .i64 0)).1
  have ho7 := (box7 BXX.out (.int .i64 1) (.slice none 0 0) (.int .i64 0) (.int .i64 0) (.int .i64 0) (.slice none 0 0) (.int .i64 0)).2
  obtain ⟨Y, hY⟩ : ∃ Y, Y = (((((((W4.setCell ⟨w.heap.size + 1, 0, none⟩ (.int .i64 1)).setCell ⟨w.heap.size + 1, 1, none⟩ (.slice none 0 0)).setCell ⟨w.heap.size + 1, 2, none⟩ (.int .i64 0)).setCell ⟨w.heap.size + 1, 3, none⟩ (.int .i64 0)).setCell ⟨w.heap.size + 1, 4, none⟩ (.int .i64 0)).setCell ⟨w.heap.size + 1, 5, none⟩ (.slice none 0 0)).setCell ⟨w.heap.size + 1, 6, none⟩ (.int .i64 0)) := ⟨_, rfl⟩
  rw [← hY] at hb7 ho7 ⊢
  have k0 := blk_cell hb7 0
  have k1 := blk_cell hb7 1
  have k2 := blk_cell hb7 2
  have k3 := blk_cell hb7 3
  have k4 := blk_cell hb7 4
  have k5 := blk_cell hb7 5
  have k6 := blk_cell hb7 6
  simp at k0 k1 k2 k3 k4 k5 k6
  refine bodyPost_ret (v := errV 1) ?_ rfl ?_
  · simp [results, Tryz.results51, go_sem, errV, k0, k1, k2, k3, k4, k5, k6]
  · exact ⟨rfl, ((Only.of_below (S := fun _ => False) HB4.out (fun k h1 h2 => by omega)).trans ho7 (fun i hi => .inr (by omega))).below (Nat.le_refl _) (fun _ h => h.elim)⟩
set_option maxRecDepth 100000 in
set_option maxHeartbeats 4000000 in
theorem trunc_no (w : World) (t : Nat) (σ : Tr) (Ls : List Lay) (hT : TrAt w t σ Ls) (kk : Int) (s s2 : ByteArray) (off N : Int) (dp : Option Addr) (dl dc : Nat) (hs : s.size ≤ 16777216) (h0 : ¬ N < 0) (e : Int) (he : fileE σ.nodes (ofS s) = (none, e)) (hne : e ≠ 0) :
    Calls Tryz.prog 51 #[ptrV t, callV kk s s2 off N (.slice dp dl dc)] w fun x w' => x = .returned (errV e) ∧ Below w.heap.size w w' := by
  have HFI : Hid (∀ W, Below w.heap.size w W → _) := Hid.mk (fun W (hB : Below w.heap.size w W) => file_any W t σ Ls (hT.below rfl hB) s hs)
  rw [he] at HFI
  simp only [optV, ptrV] at HFI
  clear hT hs he
  unfold callV ptrV at *
  go_enter Tryz.func51, Tryz.ntmps51
  go_wp2_with fail
  obtain ⟨X, hX⟩ : ∃ X, X = (w.alloc (.cells #[.int .i64 kk, .string s, .string s2, .int .i64 off, .int .i64 N, .slice dp dl dc] 33)).alloc (.cells #[.int .i64 0, .slice none 0 0, .int .i64 0, .int .i64 0, .int .i64 0, .slice none 0 0, .int .i64 0] 37) := ⟨_, rfl⟩
  have hXB : Below w.heap.size w X := by rw [hX]; exact ((Below.refl _ w).alloc (Nat.le_refl _) _).alloc (by simp) _
  have hXs : X.heap.size = w.heap.size + 2 := by rw [hX]; simp
  have hX0 : X.heap[w.heap.size]? = some (.cells #[.int .i64 kk, .string s, .string s2, .int .i64 off, .int .i64 N, .slice dp dl dc] 33 (0, 0)) := by rw [hX, Below.heap_alloc _ _ _ (by simp)]; exact blk_new w _
  have hX1 : X.heap[w.heap.size + 1]? = some (.cells #[.int .i64 0, .slice none 0 0, .int .i64 0, .int .i64 0, .int .i64 0, .slice none 0 0, .int .i64 0] 37 (0, 0)) := by
    rw [hX]
    have := blk_new (w.alloc (.cells #[.int .i64 kk, .string s, .string s2, .int .i64 off, .int .i64 N, .slice dp dl dc] 33)) (.cells #[.int .i64 0, .slice none 0 0, .int .i64 0, .int .i64 0, .int .i64 0, .slice none 0 0, .int .i64 0] 37)
    rwa [World.size_alloc] at this
  rw [← hX]
  clear hX
  have f1 := blk_cell hX0 1
  have f4 := blk_cell hX0 4
  simp at f1 f4
  have HXB := Hid.mk hXB
  have HXS := Hid.mk hXs
  have HX0 := Hid.mk hX0
  have HX1 := Hid.mk hX1
  clear hXB hXs hX0 hX1
  go_wp2_with (first
    | (go_at_call 88; refine (HFI.out X HXB.out).mono ?_; rintro e' W1 ⟨rfl, hB1⟩
       have HY1 := Hid.mk ((hB1.block _ (lt_of_block HX1.out)).trans HX1.out)
       have HB1 : Hid (Below w.heap.size w W1) := Hid.mk (HXB.out.trans (hB1.mono HXB.out.size))
       clear hB1 f1 f4)
    | (go_at_call 34; refine (failed_any _ _).mono ?_; rintro e' W4 ⟨rfl, hb4⟩; have hbx := (hb4.block _ (lt_of_block HY1.out)).trans HY1.out; have z0 := blk_cell hbx 0; have y0 := blk_free hbx 0; have z1 := blk_cell hbx 1; have y1 := blk_free hbx 1; have z2 := blk_cell hbx 2; have y2 := blk_free hbx 2; have z3 := blk_cell hbx 3; have y3 := blk_free hbx 3; have z4 := blk_cell hbx 4; have y4 := blk_free hbx 4; have z5 := blk_cell hbx 5; have y5 := blk_free hbx 5; have z6 := blk_cell hbx 6; have y6 := blk_free hbx 6; simp at z0 z1 z2 z3 z4 z5 z6; have BXX := Hid.mk hbx; have HB4 := Hid.mk (HB1.out.trans (hb4.mono HB1.out.size)); unfold errV; clear hbx hb4))
  have hb7 := (box7 BXX.out (.int .i64 e) (.slice none 0 0) (.int .i64 0) (.int .i64 0) (.int .i64 0) (.slice none 0 0) (.int .i64 0)).1
  have ho7 := (box7 BXX.out (.int .i64 e) (.slice none 0 0) (.int .i64 0) (.int .i64 0) (.int .i64 0) (.slice none 0 0) (.int .i64 0)).2
  obtain ⟨Y, hY⟩ : ∃ Y, Y = (((((((W4.setCell ⟨w.heap.size + 1, 0, none⟩ (.int .i64 e)).setCell ⟨w.heap.size + 1, 1, none⟩ (.slice none 0 0)).setCell ⟨w.heap.size + 1, 2, none⟩ (.int .i64 0)).setCell ⟨w.heap.size + 1, 3, none⟩ (.int .i64 0)).setCell ⟨w.heap.size + 1, 4, none⟩ (.int .i64 0)).setCell ⟨w.heap.size + 1, 5, none⟩ (.slice none 0 0)).setCell ⟨w.heap.size + 1, 6, none⟩ (.int .i64 0)) := ⟨_, rfl⟩
  rw [← hY] at hb7 ho7 ⊢
  have k0 := blk_cell hb7 0
  have k1 := blk_cell hb7 1
  have k2 := blk_cell hb7 2
  have k3 := blk_cell hb7 3
  have k4 := blk_cell hb7 4
  have k5 := blk_cell hb7 5
  have k6 := blk_cell hb7 6
  simp at k0 k1 k2 k3 k4 k5 k6
  refine bodyPost_ret (v := errV e) ?_ rfl ?_
  · simp [results, Tryz.results51, go_sem, errV, k0, k1, k2, k3, k4, k5, k6]
  · exact ⟨rfl, ((Only.of_below (S := fun _ => False) HB4.out (fun k h1 h2 => by omega)).trans ho7 (fun i hi => .inr (by omega))).below (Nat.le_refl _) (fun _ h => h.elim)⟩
set_option maxRecDepth 100000 in
set_option maxHeartbeats 4000000 in
theorem write_big (w : World) (t : Nat) (σ : Tr) (Ls : List Lay) (hT : TrAt w t σ Ls) (kk : Int) (s s2 : ByteArray) (off N : Int) (dp : Option Addr) (dl dc : Nat) (hs : s.size ≤ 16777216) (h0 : ¬ off < 0) (h1 : ¬ (8192 : Int) < (dl : Int)) (h2 : (67379200 : Int) - (dl : Int) < off) (j : Nat) (he : fileE σ.nodes (ofS s) = (some j, 0)) :
    Calls Tryz.prog 50 #[ptrV t, callV kk s s2 off N (.slice dp dl dc)] w fun x w' => x = .returned (errV 17) ∧ Below w.heap.size w w' := by
  have HFI : Hid (∀ W, Below w.heap.size w W → _) := Hid.mk (fun W (hB : Below w.heap.size w W) => file_any W t σ Ls (hT.below rfl hB) s hs)
  rw [he] at HFI
  simp only [optV, ptrV] at HFI
  have c6 : IntKind.i64.wrap (67379200 - (dl : Int)) = 67379200 - (dl : Int) := by rw [IntKind.wrap_i64]; omega
  clear hT hs he
  unfold callV ptrV at *
  go_enter Tryz.func50, Tryz.ntmps50
  go_wp2_with fail
  obtain ⟨X, hX⟩ : ∃ X, X = (w.alloc (.cells #[.int .i64 kk, .string s, .string s2, .int .i64 off, .int .i64 N, .slice dp dl dc] 33)).alloc (.cells #[.int .i64 0, .slice none 0 0, .int .i64 0, .int .i64 0, .int .i64 0, .slice none 0 0, .int .i64 0] 37) := ⟨_, rfl⟩
  have hXB : Below w.heap.size w X := by rw [hX]; exact ((Below.refl _ w).alloc (Nat.le_refl _) _).alloc (by simp) _
  have hXs : X.heap.size = w.heap.size + 2 := by rw [hX]; simp
  have hX0 : X.heap[w.heap.size]? = some (.cells #[.int .i64 kk, .string s, .string s2, .int .i64 off, .int .i64 N, .slice dp dl dc] 33 (0, 0)) := by rw [hX, Below.heap_alloc _ _ _ (by simp)]; exact blk_new w _
  have hX1 : X.heap[w.heap.size + 1]? = some (.cells #[.int .i64 0, .slice none 0 0, .int .i64 0, .int .i64 0, .int .i64 0, .slice none 0 0, .int .i64 0] 37 (0, 0)) := by
    rw [hX]
    have := blk_new (w.alloc (.cells #[.int .i64 kk, .string s, .string s2, .int .i64 off, .int .i64 N, .slice dp dl dc] 33)) (.cells #[.int .i64 0, .slice none 0 0, .int .i64 0, .int .i64 0, .int .i64 0, .slice none 0 0, .int .i64 0] 37)
    rwa [World.size_alloc] at this
  rw [← hX]
  clear hX
  have f1 := blk_cell hX0 1
  have f3 := blk_cell hX0 3
  have f5 := blk_cell hX0 5
  simp at f1 f3 f5
  have HXB := Hid.mk hXB
  have HXS := Hid.mk hXs
  have HX0 := Hid.mk hX0
  have HX1 := Hid.mk hX1
  clear hXB hXs hX0 hX1
  go_wp2_with (first
    | (go_at_call 88; refine (HFI.out X HXB.out).mono ?_; rintro e' W1 ⟨rfl, hB1⟩
       have hx := (hB1.block _ (lt_of_block HX0.out)).trans HX0.out
       have hy : (W1.alloc (.cells #[.pointer (some ⟨locL Ls j, 0, none⟩)] 68)).heap[w.heap.size]? = _ := (Below.heap_alloc _ _ _ (lt_of_block hx)).trans hx
       have hx1 := (hB1.block _ (lt_of_block HX1.out)).trans HX1.out
       have hy1 : (W1.alloc (.cells #[.pointer (some ⟨locL Ls j, 0, none⟩)] 68)).heap[w.heap.size + 1]? = _ := (Below.heap_alloc _ _ _ (lt_of_block hx1)).trans hx1
       have g3 := blk_cell hy 3
       have g5 := blk_cell hy 5
       simp at g3 g5
       have HY1 := Hid.mk hy1
       have HB1 : Hid (Below w.heap.size w (W1.alloc (.cells #[.pointer (some ⟨locL Ls j, 0, none⟩)] 68))) := Hid.mk (by have := HXB.out.trans (hB1.mono HXB.out.size); exact this.alloc this.size _)
       clear hB1 hx hy hx1 hy1 f1 f3 f5)
    | (go_at_call 34; refine (failed_any _ _).mono ?_; rintro e' W4 ⟨rfl, hb4⟩; have hbx := (hb4.block _ (lt_of_block HY1.out)).trans HY1.out; have z0 := blk_cell hbx 0; have y0 := blk_free hbx 0; have z1 := blk_cell hbx 1; have y1 := blk_free hbx 1; have z2 := blk_cell hbx 2; have y2 := blk_free hbx 2; have z3 := blk_cell hbx 3; have y3 := blk_free hbx 3; have z4 := blk_cell hbx 4; have y4 := blk_free hbx 4; have z5 := blk_cell hbx 5; have y5 := blk_free hbx 5; have z6 := blk_cell hbx 6; have y6 := blk_free hbx 6; simp at z0 z1 z2 z3 z4 z5 z6; have BXX := Hid.mk hbx; have HB4 := Hid.mk (HB1.out.trans (hb4.mono HB1.out.size)); unfold errV; clear hbx hb4))
  have hb7 := (box7 BXX.out (.int .i64 17) (.slice none 0 0) (.int .i64 0) (.int .i64 0) (.int .i64 0) (.slice none 0 0) (.int .i64 0)).1
  have ho7 := (box7 BXX.out (.int .i64 17) (.slice none 0 0) (.int .i64 0) (.int .i64 0) (.int .i64 0) (.slice none 0 0) (.int .i64 0)).2
  obtain ⟨Y, hY⟩ : ∃ Y, Y = (((((((W4.setCell ⟨w.heap.size + 1, 0, none⟩ (.int .i64 17)).setCell ⟨w.heap.size + 1, 1, none⟩ (.slice none 0 0)).setCell ⟨w.heap.size + 1, 2, none⟩ (.int .i64 0)).setCell ⟨w.heap.size + 1, 3, none⟩ (.int .i64 0)).setCell ⟨w.heap.size + 1, 4, none⟩ (.int .i64 0)).setCell ⟨w.heap.size + 1, 5, none⟩ (.slice none 0 0)).setCell ⟨w.heap.size + 1, 6, none⟩ (.int .i64 0)) := ⟨_, rfl⟩
  rw [← hY] at hb7 ho7 ⊢
  have k0 := blk_cell hb7 0
  have k1 := blk_cell hb7 1
  have k2 := blk_cell hb7 2
  have k3 := blk_cell hb7 3
  have k4 := blk_cell hb7 4
  have k5 := blk_cell hb7 5
  have k6 := blk_cell hb7 6
  simp at k0 k1 k2 k3 k4 k5 k6
  refine bodyPost_ret (v := errV 17) ?_ rfl ?_
  · simp [results, Tryz.results50, go_sem, errV, k0, k1, k2, k3, k4, k5, k6]
  · exact ⟨rfl, ((Only.of_below (S := fun _ => False) HB4.out (fun k h1 h2 => by omega)).trans ho7 (fun i hi => .inr (by omega))).below (Nat.le_refl _) (fun _ h => h.elim)⟩
set_option maxRecDepth 100000 in
set_option maxHeartbeats 4000000 in
theorem trunc_big (w : World) (t : Nat) (σ : Tr) (Ls : List Lay) (hT : TrAt w t σ Ls) (kk : Int) (s s2 : ByteArray) (off N : Int) (dp : Option Addr) (dl dc : Nat) (hs : s.size ≤ 16777216) (h0 : ¬ N < 0) (h2 : (67379200 : Int) < N) (j : Nat) (he : fileE σ.nodes (ofS s) = (some j, 0)) :
    Calls Tryz.prog 51 #[ptrV t, callV kk s s2 off N (.slice dp dl dc)] w fun x w' => x = .returned (errV 17) ∧ Below w.heap.size w w' := by
  have HFI : Hid (∀ W, Below w.heap.size w W → _) := Hid.mk (fun W (hB : Below w.heap.size w W) => file_any W t σ Ls (hT.below rfl hB) s hs)
  rw [he] at HFI
  simp only [optV, ptrV] at HFI
  clear hT hs he
  unfold callV ptrV at *
  go_enter Tryz.func51, Tryz.ntmps51
  go_wp2_with fail
  obtain ⟨X, hX⟩ : ∃ X, X = (w.alloc (.cells #[.int .i64 kk, .string s, .string s2, .int .i64 off, .int .i64 N, .slice dp dl dc] 33)).alloc (.cells #[.int .i64 0, .slice none 0 0, .int .i64 0, .int .i64 0, .int .i64 0, .slice none 0 0, .int .i64 0] 37) := ⟨_, rfl⟩
  have hXB : Below w.heap.size w X := by rw [hX]; exact ((Below.refl _ w).alloc (Nat.le_refl _) _).alloc (by simp) _
  have hXs : X.heap.size = w.heap.size + 2 := by rw [hX]; simp
  have hX0 : X.heap[w.heap.size]? = some (.cells #[.int .i64 kk, .string s, .string s2, .int .i64 off, .int .i64 N, .slice dp dl dc] 33 (0, 0)) := by rw [hX, Below.heap_alloc _ _ _ (by simp)]; exact blk_new w _
  have hX1 : X.heap[w.heap.size + 1]? = some (.cells #[.int .i64 0, .slice none 0 0, .int .i64 0, .int .i64 0, .int .i64 0, .slice none 0 0, .int .i64 0] 37 (0, 0)) := by
    rw [hX]
    have := blk_new (w.alloc (.cells #[.int .i64 kk, .string s, .string s2, .int .i64 off, .int .i64 N, .slice dp dl dc] 33)) (.cells #[.int .i64 0, .slice none 0 0, .int .i64 0, .int .i64 0, .int .i64 0, .slice none 0 0, .int .i64 0] 37)
    rwa [World.size_alloc] at this
  rw [← hX]
  clear hX
  have f1 := blk_cell hX0 1
  have f4 := blk_cell hX0 4
  simp at f1 f4
  have HXB := Hid.mk hXB
  have HXS := Hid.mk hXs
  have HX0 := Hid.mk hX0
  have HX1 := Hid.mk hX1
  clear hXB hXs hX0 hX1
  go_wp2_with (first
    | (go_at_call 88; refine (HFI.out X HXB.out).mono ?_; rintro e' W1 ⟨rfl, hB1⟩
       have HY1 := Hid.mk ((hB1.block _ (lt_of_block HX1.out)).trans HX1.out)
       have HB1 : Hid (Below w.heap.size w W1) := Hid.mk (HXB.out.trans (hB1.mono HXB.out.size))
       have hx := (hB1.block _ (lt_of_block HX0.out)).trans HX0.out
       have g4 := blk_cell hx 4
       simp at g4
       clear hB1 hx f1 f4)
    | (go_at_call 34; refine (failed_any _ _).mono ?_; rintro e' W4 ⟨rfl, hb4⟩; have hbx := (hb4.block _ (lt_of_block HY1.out)).trans HY1.out; have z0 := blk_cell hbx 0; have y0 := blk_free hbx 0; have z1 := blk_cell hbx 1; have y1 := blk_free hbx 1; have z2 := blk_cell hbx 2; have y2 := blk_free hbx 2; have z3 := blk_cell hbx 3; have y3 := blk_free hbx 3; have z4 := blk_cell hbx 4; have y4 := blk_free hbx 4; have z5 := blk_cell hbx 5; have y5 := blk_free hbx 5; have z6 := blk_cell hbx 6; have y6 := blk_free hbx 6; simp at z0 z1 z2 z3 z4 z5 z6; have BXX := Hid.mk hbx; have HB4 := Hid.mk (HB1.out.trans (hb4.mono HB1.out.size)); unfold errV; clear hbx hb4))
  have hb7 := (box7 BXX.out (.int .i64 17) (.slice none 0 0) (.int .i64 0) (.int .i64 0) (.int .i64 0) (.slice none 0 0) (.int .i64 0)).1
  have ho7 := (box7 BXX.out (.int .i64 17) (.slice none 0 0) (.int .i64 0) (.int .i64 0) (.int .i64 0) (.slice none 0 0) (.int .i64 0)).2
  obtain ⟨Y, hY⟩ : ∃ Y, Y = (((((((W4.setCell ⟨w.heap.size + 1, 0, none⟩ (.int .i64 17)).setCell ⟨w.heap.size + 1, 1, none⟩ (.slice none 0 0)).setCell ⟨w.heap.size + 1, 2, none⟩ (.int .i64 0)).setCell ⟨w.heap.size + 1, 3, none⟩ (.int .i64 0)).setCell ⟨w.heap.size + 1, 4, none⟩ (.int .i64 0)).setCell ⟨w.heap.size + 1, 5, none⟩ (.slice none 0 0)).setCell ⟨w.heap.size + 1, 6, none⟩ (.int .i64 0)) := ⟨_, rfl⟩
  rw [← hY] at hb7 ho7 ⊢
  have k0 := blk_cell hb7 0
  have k1 := blk_cell hb7 1
  have k2 := blk_cell hb7 2
  have k3 := blk_cell hb7 3
  have k4 := blk_cell hb7 4
  have k5 := blk_cell hb7 5
  have k6 := blk_cell hb7 6
  simp at k0 k1 k2 k3 k4 k5 k6
  refine bodyPost_ret (v := errV 17) ?_ rfl ?_
  · simp [results, Tryz.results51, go_sem, errV, k0, k1, k2, k3, k4, k5, k6]
  · exact ⟨rfl, ((Only.of_below (S := fun _ => False) HB4.out (fun k h1 h2 => by omega)).trans ho7 (fun i hi => .inr (by omega))).below (Nat.le_refl _) (fun _ h => h.elim)⟩
set_option maxRecDepth 100000 in
set_option maxHeartbeats 4000000 in
theorem write_none (w : World) (t : Nat) (σ : Tr) (Ls : List Lay) (hT : TrAt w t σ Ls) (kk : Int) (s s2 : ByteArray) (off N : Int) (dp : Option Addr) (dl dc : Nat) (hs : s.size ≤ 16777216) (h0 : ¬ off < 0) (h2 : ¬ (67379200 : Int) < off) (hd : dl = 0) (j : Nat) (he : fileE σ.nodes (ofS s) = (some j, 0)) :
    Calls Tryz.prog 50 #[ptrV t, callV kk s s2 off N (.slice dp dl dc)] w fun x w' => x = .returned (errV 0) ∧ Below w.heap.size w w' := by
  have HFI : Hid (∀ W, Below w.heap.size w W → _) := Hid.mk (fun W (hB : Below w.heap.size w W) => file_any W t σ Ls (hT.below rfl hB) s hs)
  rw [he] at HFI
  simp only [optV, ptrV] at HFI
  subst hd
  clear hT hs he
  unfold callV ptrV at *
  go_enter Tryz.func50, Tryz.ntmps50
  go_wp2_with fail
  obtain ⟨X, hX⟩ : ∃ X, X = (w.alloc (.cells #[.int .i64 kk, .string s, .string s2, .int .i64 off, .int .i64 N, .slice dp 0 dc] 33)).alloc (.cells #[.int .i64 0, .slice none 0 0, .int .i64 0, .int .i64 0, .int .i64 0, .slice none 0 0, .int .i64 0] 37) := ⟨_, rfl⟩
  have hXB : Below w.heap.size w X := by rw [hX]; exact ((Below.refl _ w).alloc (Nat.le_refl _) _).alloc (by simp) _
  have hXs : X.heap.size = w.heap.size + 2 := by rw [hX]; simp
  have hX0 : X.heap[w.heap.size]? = some (.cells #[.int .i64 kk, .string s, .string s2, .int .i64 off, .int .i64 N, .slice dp 0 dc] 33 (0, 0)) := by rw [hX, Below.heap_alloc _ _ _ (by simp)]; exact blk_new w _
  have hX1 : X.heap[w.heap.size + 1]? = some (.cells #[.int .i64 0, .slice none 0 0, .int .i64 0, .int .i64 0, .int .i64 0, .slice none 0 0, .int .i64 0] 37 (0, 0)) := by
    rw [hX]
    have := blk_new (w.alloc (.cells #[.int .i64 kk, .string s, .string s2, .int .i64 off, .int .i64 N, .slice dp 0 dc] 33)) (.cells #[.int .i64 0, .slice none 0 0, .int .i64 0, .int .i64 0, .int .i64 0, .slice none 0 0, .int .i64 0] 37)
    rwa [World.size_alloc] at this
  rw [← hX]
  clear hX
  have f1 := blk_cell hX0 1
  have f3 := blk_cell hX0 3
  have f5 := blk_cell hX0 5
  simp at f1 f3 f5
  have HXB := Hid.mk hXB
  have HXS := Hid.mk hXs
  have HX0 := Hid.mk hX0
  have HX1 := Hid.mk hX1
  clear hXB hXs hX0 hX1
  go_wp2_with (first
    | (go_at_call 88; refine (HFI.out X HXB.out).mono ?_; rintro e' W1 ⟨rfl, hB1⟩
       have hx := (hB1.block _ (lt_of_block HX0.out)).trans HX0.out
       have hy : (W1.alloc (.cells #[.pointer (some ⟨locL Ls j, 0, none⟩)] 68)).heap[w.heap.size]? = _ := (Below.heap_alloc _ _ _ (lt_of_block hx)).trans hx
       have hx1 := (hB1.block _ (lt_of_block HX1.out)).trans HX1.out
       have hbx : (W1.alloc (.cells #[.pointer (some ⟨locL Ls j, 0, none⟩)] 68)).heap[w.heap.size + 1]? = _ := (Below.heap_alloc _ _ _ (lt_of_block hx1)).trans hx1
       have g3 := blk_cell hy 3
       have g5 := blk_cell hy 5
       simp at g3 g5
       have z0 := blk_cell hbx 0
       have y0 := blk_free hbx 0
       have z1 := blk_cell hbx 1
       have y1 := blk_free hbx 1
       have z2 := blk_cell hbx 2
       have y2 := blk_free hbx 2
       have z3 := blk_cell hbx 3
       have y3 := blk_free hbx 3
       have z4 := blk_cell hbx 4
       have y4 := blk_free hbx 4
       have z5 := blk_cell hbx 5
       have y5 := blk_free hbx 5
       have z6 := blk_cell hbx 6
       have y6 := blk_free hbx 6
       simp at z0 z1 z2 z3 z4 z5 z6
       have BXX := Hid.mk hbx
       have HB4 : Hid (Below w.heap.size w (W1.alloc (.cells #[.pointer (some ⟨locL Ls j, 0, none⟩)] 68))) := Hid.mk (by have := HXB.out.trans (hB1.mono HXB.out.size); exact this.alloc this.size _)
       clear hB1 hx hy hx1 hbx f1 f3 f5))
  have hb7 := (box7 BXX.out (.int .i64 0) (.slice none 0 0) (.int .i64 0) (.int .i64 0) (.int .i64 0) (.slice none 0 0) (.int .i64 0)).1
  have ho7 := (box7 BXX.out (.int .i64 0) (.slice none 0 0) (.int .i64 0) (.int .i64 0) (.int .i64 0) (.slice none 0 0) (.int .i64 0)).2
  obtain ⟨Y, hY⟩ : ∃ Y, Y = ((((((((W1.alloc (.cells #[.pointer (some ⟨locL Ls j, 0, none⟩)] 68)).setCell ⟨w.heap.size + 1, 0, none⟩ (.int .i64 0)).setCell ⟨w.heap.size + 1, 1, none⟩ (.slice none 0 0)).setCell ⟨w.heap.size + 1, 2, none⟩ (.int .i64 0)).setCell ⟨w.heap.size + 1, 3, none⟩ (.int .i64 0)).setCell ⟨w.heap.size + 1, 4, none⟩ (.int .i64 0)).setCell ⟨w.heap.size + 1, 5, none⟩ (.slice none 0 0)).setCell ⟨w.heap.size + 1, 6, none⟩ (.int .i64 0)) := ⟨_, rfl⟩
  rw [← hY] at hb7 ho7 ⊢
  have k0 := blk_cell hb7 0
  have k1 := blk_cell hb7 1
  have k2 := blk_cell hb7 2
  have k3 := blk_cell hb7 3
  have k4 := blk_cell hb7 4
  have k5 := blk_cell hb7 5
  have k6 := blk_cell hb7 6
  simp at k0 k1 k2 k3 k4 k5 k6
  refine bodyPost_ret (v := errV 0) ?_ rfl ?_
  · simp [results, Tryz.results50, go_sem, errV, k0, k1, k2, k3, k4, k5, k6]
  · exact ⟨rfl, ((Only.of_below (S := fun _ => False) HB4.out (fun k h1 h2 => by omega)).trans ho7 (fun i hi => .inr (by omega))).below (Nat.le_refl _) (fun _ h => h.elim)⟩
theorem doo_read_arg1 (w : World) (t : Nat) (σ : Tr) (Ls : List Lay) (hT : TrAt w t σ Ls) (s s2 : ByteArray) (off N : Int) (dp : Option Addr) (dl dc : Nat) (hs : s.size ≤ 16777216) (h : off < 0) :
    Calls Tryz.prog 13 #[ptrV t, callV 7 s s2 off N (.slice dp dl dc)] w fun x w' => x = .returned (errV 1) ∧ Step (fun k => k ∈ feet t Ls) w t w' σ := by
  refine (do_read w t σ Ls s s2 off N dp dl dc 1 0 0 0 0 (fun x y _ => x = .slice none 0 0 ∧ y = .slice none 0 0) (fun k hk => hT.lt k hk) (fun _ _ _ _ h _ => h) (Hid.mk (fun W hB _ => (read_arg1 W t σ Ls (hT.below rfl hB) 7 s s2 off N dp dl dc hs h).mono (fun e w' hh => ⟨none, 0, 0, none, 0, 0, hh.1, Step.still (hT.below rfl hB) (fun k hk => hk) hh.2, rfl, rfl⟩)))).mono ?_
  rintro e w' ⟨a1, n1, c1, a5, n5, c5, rfl, hst, h1, h2⟩
  cases h1; cases h2
  exact ⟨rfl, hst⟩
theorem doo_read_arg2 (w : World) (t : Nat) (σ : Tr) (Ls : List Lay) (hT : TrAt w t σ Ls) (s s2 : ByteArray) (off N : Int) (dp : Option Addr) (dl dc : Nat) (hs : s.size ≤ 16777216) (h0 : ¬ off < 0) (h : N < 0) :
    Calls Tryz.prog 13 #[ptrV t, callV 7 s s2 off N (.slice dp dl dc)] w fun x w' => x = .returned (errV 1) ∧ Step (fun k => k ∈ feet t Ls) w t w' σ := by
  refine (do_read w t σ Ls s s2 off N dp dl dc 1 0 0 0 0 (fun x y _ => x = .slice none 0 0 ∧ y = .slice none 0 0) (fun k hk => hT.lt k hk) (fun _ _ _ _ h _ => h) (Hid.mk (fun W hB _ => (read_arg2 W t σ Ls (hT.below rfl hB) 7 s s2 off N dp dl dc hs h0 h).mono (fun e w' hh => ⟨none, 0, 0, none, 0, 0, hh.1, Step.still (hT.below rfl hB) (fun k hk => hk) hh.2, rfl, rfl⟩)))).mono ?_
  rintro e w' ⟨a1, n1, c1, a5, n5, c5, rfl, hst, h1, h2⟩
  cases h1; cases h2
  exact ⟨rfl, hst⟩
theorem doo_read_arg3 (w : World) (t : Nat) (σ : Tr) (Ls : List Lay) (hT : TrAt w t σ Ls) (s s2 : ByteArray) (off N : Int) (dp : Option Addr) (dl dc : Nat) (hs : s.size ≤ 16777216) (h0 : ¬ off < 0) (h1 : ¬ N < 0) (h : 8192 < N) :
    Calls Tryz.prog 13 #[ptrV t, callV 7 s s2 off N (.slice dp dl dc)] w fun x w' => x = .returned (errV 1) ∧ Step (fun k => k ∈ feet t Ls) w t w' σ := by
  refine (do_read w t σ Ls s s2 off N dp dl dc 1 0 0 0 0 (fun x y _ => x = .slice none 0 0 ∧ y = .slice none 0 0) (fun k hk => hT.lt k hk) (fun _ _ _ _ h _ => h) (Hid.mk (fun W hB _ => (read_arg3 W t σ Ls (hT.below rfl hB) 7 s s2 off N dp dl dc hs h0 h1 h).mono (fun e w' hh => ⟨none, 0, 0, none, 0, 0, hh.1, Step.still (hT.below rfl hB) (fun k hk => hk) hh.2, rfl, rfl⟩)))).mono ?_
  rintro e w' ⟨a1, n1, c1, a5, n5, c5, rfl, hst, h1, h2⟩
  cases h1; cases h2
  exact ⟨rfl, hst⟩
theorem doo_read_no (w : World) (t : Nat) (σ : Tr) (Ls : List Lay) (hT : TrAt w t σ Ls) (s s2 : ByteArray) (off N : Int) (dp : Option Addr) (dl dc : Nat) (hs : s.size ≤ 16777216) (h0 : ¬ off < 0) (h1 : ¬ N < 0) (h2 : ¬ 8192 < N) (e : Int) (he : fileE σ.nodes (ofS s) = (none, e)) (hne : e ≠ 0) :
    Calls Tryz.prog 13 #[ptrV t, callV 7 s s2 off N (.slice dp dl dc)] w fun x w' => x = .returned (errV e) ∧ Step (fun k => k ∈ feet t Ls) w t w' σ := by
  refine (do_read w t σ Ls s s2 off N dp dl dc e 0 0 0 0 (fun x y _ => x = .slice none 0 0 ∧ y = .slice none 0 0) (fun k hk => hT.lt k hk) (fun _ _ _ _ h _ => h) (Hid.mk (fun W hB _ => (read_no W t σ Ls (hT.below rfl hB) 7 s s2 off N dp dl dc hs h0 h1 h2 e he hne).mono (fun e w' hh => ⟨none, 0, 0, none, 0, 0, hh.1, Step.still (hT.below rfl hB) (fun k hk => hk) hh.2, rfl, rfl⟩)))).mono ?_
  rintro e w' ⟨a1, n1, c1, a5, n5, c5, rfl, hst, h1, h2⟩
  cases h1; cases h2
  exact ⟨rfl, hst⟩
theorem doo_write_arg1 (w : World) (t : Nat) (σ : Tr) (Ls : List Lay) (hT : TrAt w t σ Ls) (s s2 : ByteArray) (off N : Int) (dp : Option Addr) (dl dc : Nat) (hs : s.size ≤ 16777216) (h : off < 0) :
    Calls Tryz.prog 13 #[ptrV t, callV 8 s s2 off N (.slice dp dl dc)] w fun x w' => x = .returned (errV 1) ∧ Step (fun k => k ∈ feet t Ls) w t w' σ := by
  refine (do_write w t σ Ls s s2 off N dp dl dc 1 0 0 0 0 (fun x y _ => x = .slice none 0 0 ∧ y = .slice none 0 0) (fun k hk => hT.lt k hk) (fun _ _ _ _ h _ => h) (Hid.mk (fun W hB _ => (write_arg1 W t σ Ls (hT.below rfl hB) 8 s s2 off N dp dl dc hs h).mono (fun e w' hh => ⟨none, 0, 0, none, 0, 0, hh.1, Step.still (hT.below rfl hB) (fun k hk => hk) hh.2, rfl, rfl⟩)))).mono ?_
  rintro e w' ⟨a1, n1, c1, a5, n5, c5, rfl, hst, h1, h2⟩
  cases h1; cases h2
  exact ⟨rfl, hst⟩
theorem doo_write_arg2 (w : World) (t : Nat) (σ : Tr) (Ls : List Lay) (hT : TrAt w t σ Ls) (s s2 : ByteArray) (off N : Int) (dp : Option Addr) (dl dc : Nat) (hs : s.size ≤ 16777216) (h0 : ¬ off < 0) (h : (8192 : Int) < (dl : Int)) :
    Calls Tryz.prog 13 #[ptrV t, callV 8 s s2 off N (.slice dp dl dc)] w fun x w' => x = .returned (errV 1) ∧ Step (fun k => k ∈ feet t Ls) w t w' σ := by
  refine (do_write w t σ Ls s s2 off N dp dl dc 1 0 0 0 0 (fun x y _ => x = .slice none 0 0 ∧ y = .slice none 0 0) (fun k hk => hT.lt k hk) (fun _ _ _ _ h _ => h) (Hid.mk (fun W hB _ => (write_arg2 W t σ Ls (hT.below rfl hB) 8 s s2 off N dp dl dc hs h0 h).mono (fun e w' hh => ⟨none, 0, 0, none, 0, 0, hh.1, Step.still (hT.below rfl hB) (fun k hk => hk) hh.2, rfl, rfl⟩)))).mono ?_
  rintro e w' ⟨a1, n1, c1, a5, n5, c5, rfl, hst, h1, h2⟩
  cases h1; cases h2
  exact ⟨rfl, hst⟩
theorem doo_write_no (w : World) (t : Nat) (σ : Tr) (Ls : List Lay) (hT : TrAt w t σ Ls) (s s2 : ByteArray) (off N : Int) (dp : Option Addr) (dl dc : Nat) (hs : s.size ≤ 16777216) (h0 : ¬ off < 0) (h1 : ¬ (8192 : Int) < (dl : Int)) (e : Int) (he : fileE σ.nodes (ofS s) = (none, e)) (hne : e ≠ 0) :
    Calls Tryz.prog 13 #[ptrV t, callV 8 s s2 off N (.slice dp dl dc)] w fun x w' => x = .returned (errV e) ∧ Step (fun k => k ∈ feet t Ls) w t w' σ := by
  refine (do_write w t σ Ls s s2 off N dp dl dc e 0 0 0 0 (fun x y _ => x = .slice none 0 0 ∧ y = .slice none 0 0) (fun k hk => hT.lt k hk) (fun _ _ _ _ h _ => h) (Hid.mk (fun W hB _ => (write_no W t σ Ls (hT.below rfl hB) 8 s s2 off N dp dl dc hs h0 h1 e he hne).mono (fun e w' hh => ⟨none, 0, 0, none, 0, 0, hh.1, Step.still (hT.below rfl hB) (fun k hk => hk) hh.2, rfl, rfl⟩)))).mono ?_
  rintro e w' ⟨a1, n1, c1, a5, n5, c5, rfl, hst, h1, h2⟩
  cases h1; cases h2
  exact ⟨rfl, hst⟩
theorem doo_write_big (w : World) (t : Nat) (σ : Tr) (Ls : List Lay) (hT : TrAt w t σ Ls) (s s2 : ByteArray) (off N : Int) (dp : Option Addr) (dl dc : Nat) (hs : s.size ≤ 16777216) (h0 : ¬ off < 0) (h1 : ¬ (8192 : Int) < (dl : Int)) (h2 : (67379200 : Int) - (dl : Int) < off) (j : Nat) (he : fileE σ.nodes (ofS s) = (some j, 0)) :
    Calls Tryz.prog 13 #[ptrV t, callV 8 s s2 off N (.slice dp dl dc)] w fun x w' => x = .returned (errV 17) ∧ Step (fun k => k ∈ feet t Ls) w t w' σ := by
  refine (do_write w t σ Ls s s2 off N dp dl dc 17 0 0 0 0 (fun x y _ => x = .slice none 0 0 ∧ y = .slice none 0 0) (fun k hk => hT.lt k hk) (fun _ _ _ _ h _ => h) (Hid.mk (fun W hB _ => (write_big W t σ Ls (hT.below rfl hB) 8 s s2 off N dp dl dc hs h0 h1 h2 j he).mono (fun e w' hh => ⟨none, 0, 0, none, 0, 0, hh.1, Step.still (hT.below rfl hB) (fun k hk => hk) hh.2, rfl, rfl⟩)))).mono ?_
  rintro e w' ⟨a1, n1, c1, a5, n5, c5, rfl, hst, h1, h2⟩
  cases h1; cases h2
  exact ⟨rfl, hst⟩
theorem doo_write_none (w : World) (t : Nat) (σ : Tr) (Ls : List Lay) (hT : TrAt w t σ Ls) (s s2 : ByteArray) (off N : Int) (dp : Option Addr) (dl dc : Nat) (hs : s.size ≤ 16777216) (h0 : ¬ off < 0) (h2 : ¬ (67379200 : Int) < off) (hd : dl = 0) (j : Nat) (he : fileE σ.nodes (ofS s) = (some j, 0)) :
    Calls Tryz.prog 13 #[ptrV t, callV 8 s s2 off N (.slice dp dl dc)] w fun x w' => x = .returned (errV 0) ∧ Step (fun k => k ∈ feet t Ls) w t w' σ := by
  refine (do_write w t σ Ls s s2 off N dp dl dc 0 0 0 0 0 (fun x y _ => x = .slice none 0 0 ∧ y = .slice none 0 0) (fun k hk => hT.lt k hk) (fun _ _ _ _ h _ => h) (Hid.mk (fun W hB _ => (write_none W t σ Ls (hT.below rfl hB) 8 s s2 off N dp dl dc hs h0 h2 hd j he).mono (fun e w' hh => ⟨none, 0, 0, none, 0, 0, hh.1, Step.still (hT.below rfl hB) (fun k hk => hk) hh.2, rfl, rfl⟩)))).mono ?_
  rintro e w' ⟨a1, n1, c1, a5, n5, c5, rfl, hst, h1, h2⟩
  cases h1; cases h2
  exact ⟨rfl, hst⟩
theorem doo_trunc_arg (w : World) (t : Nat) (σ : Tr) (Ls : List Lay) (hT : TrAt w t σ Ls) (s s2 : ByteArray) (off N : Int) (dp : Option Addr) (dl dc : Nat) (hs : s.size ≤ 16777216) (h : N < 0) :
    Calls Tryz.prog 13 #[ptrV t, callV 9 s s2 off N (.slice dp dl dc)] w fun x w' => x = .returned (errV 1) ∧ Step (fun k => k ∈ feet t Ls) w t w' σ := by
  refine (do_trunc w t σ Ls s s2 off N dp dl dc 1 0 0 0 0 (fun x y _ => x = .slice none 0 0 ∧ y = .slice none 0 0) (fun k hk => hT.lt k hk) (fun _ _ _ _ h _ => h) (Hid.mk (fun W hB _ => (trunc_arg W t σ Ls (hT.below rfl hB) 9 s s2 off N dp dl dc hs h).mono (fun e w' hh => ⟨none, 0, 0, none, 0, 0, hh.1, Step.still (hT.below rfl hB) (fun k hk => hk) hh.2, rfl, rfl⟩)))).mono ?_
  rintro e w' ⟨a1, n1, c1, a5, n5, c5, rfl, hst, h1, h2⟩
  cases h1; cases h2
  exact ⟨rfl, hst⟩
theorem doo_trunc_no (w : World) (t : Nat) (σ : Tr) (Ls : List Lay) (hT : TrAt w t σ Ls) (s s2 : ByteArray) (off N : Int) (dp : Option Addr) (dl dc : Nat) (hs : s.size ≤ 16777216) (h0 : ¬ N < 0) (e : Int) (he : fileE σ.nodes (ofS s) = (none, e)) (hne : e ≠ 0) :
    Calls Tryz.prog 13 #[ptrV t, callV 9 s s2 off N (.slice dp dl dc)] w fun x w' => x = .returned (errV e) ∧ Step (fun k => k ∈ feet t Ls) w t w' σ := by
  refine (do_trunc w t σ Ls s s2 off N dp dl dc e 0 0 0 0 (fun x y _ => x = .slice none 0 0 ∧ y = .slice none 0 0) (fun k hk => hT.lt k hk) (fun _ _ _ _ h _ => h) (Hid.mk (fun W hB _ => (trunc_no W t σ Ls (hT.below rfl hB) 9 s s2 off N dp dl dc hs h0 e he hne).mono (fun e w' hh => ⟨none, 0, 0, none, 0, 0, hh.1, Step.still (hT.below rfl hB) (fun k hk => hk) hh.2, rfl, rfl⟩)))).mono ?_
  rintro e w' ⟨a1, n1, c1, a5, n5, c5, rfl, hst, h1, h2⟩
  cases h1; cases h2
  exact ⟨rfl, hst⟩
theorem doo_trunc_big (w : World) (t : Nat) (σ : Tr) (Ls : List Lay) (hT : TrAt w t σ Ls) (s s2 : ByteArray) (off N : Int) (dp : Option Addr) (dl dc : Nat) (hs : s.size ≤ 16777216) (h0 : ¬ N < 0) (h2 : (67379200 : Int) < N) (j : Nat) (he : fileE σ.nodes (ofS s) = (some j, 0)) :
    Calls Tryz.prog 13 #[ptrV t, callV 9 s s2 off N (.slice dp dl dc)] w fun x w' => x = .returned (errV 17) ∧ Step (fun k => k ∈ feet t Ls) w t w' σ := by
  refine (do_trunc w t σ Ls s s2 off N dp dl dc 17 0 0 0 0 (fun x y _ => x = .slice none 0 0 ∧ y = .slice none 0 0) (fun k hk => hT.lt k hk) (fun _ _ _ _ h _ => h) (Hid.mk (fun W hB _ => (trunc_big W t σ Ls (hT.below rfl hB) 9 s s2 off N dp dl dc hs h0 h2 j he).mono (fun e w' hh => ⟨none, 0, 0, none, 0, 0, hh.1, Step.still (hT.below rfl hB) (fun k hk => hk) hh.2, rfl, rfl⟩)))).mono ?_
  rintro e w' ⟨a1, n1, c1, a5, n5, c5, rfl, hst, h1, h2⟩
  cases h1; cases h2
  exact ⟨rfl, hst⟩
end Go.Proofs.YtehaoeclnmelhaaGreat
namespace Go.Proofs.YtehaoeclnmelhaaGreat
open Go Go.Proofs Go.RowKit Go.Shelf Go.Sort

/-- copy into a row of one's own. -/
theorem copy_own (W : World) (B g n cap o m c : Nat) (xs ys : List Int) (ao : Option Addr) (hown : W.ownsRow B 5 1 (.slice (some ⟨g, 0, none⟩) n cap) n (By xs)) (hb : BAt W ao m ys) (hm : 0 < m) (ho : o + m ≤ n) :
    ∃ W', (Builtin.copy_ #[31, 31] 3 #[.slice (some ⟨g, o, none⟩) (n - o) (cap - o), .slice ao m c]).run Tryz.prog W = .ok (.int .i64 m) W' ∧ W'.ownsRow B 5 1 (.slice (some ⟨g, 0, none⟩) n cap) n (By (splice xs o ys)) ∧ Only (fun k => k = g) W W' := by
  obtain ⟨i0, hi, hz0, hz1, hz2⟩ := info5p
  obtain ⟨a, rfl, -, hcell⟩ := hb.2 hm
  obtain ⟨h1, h2⟩ := hown
  rcases h2 with h2 | ⟨g', cap', cur, hv, hg, hh, hnc, hmx, hsz, ht⟩
  · simp at h2
  · simp only [Value.slice.injEq, Option.some.injEq, Addr.mk.injEq] at hv
    obtain ⟨⟨rfl, -, -⟩, -, rfl⟩ := hv
    have hyl := hb.1
    have hxl : xs.length = n := by rw [By_length] at h1; omega
    have hmin : Nat.min m (n - o) = m := Nat.min_eq_left (by omega)
    have hcl0 : (By ys).length = m := by rw [By_length, hyl]
    have hcl : (By ys).length = Nat.min m (n - o) := by rw [hmin, hcl0]
    have hr := run_copy_row (P := Tryz.prog) W 31 31 3 5 g o (n - o) (cap - o) a m c cur 5 (By ys) Tryz.underlying31 (by rw [hi]; simp [hz1]) hh hcl (fun j u hj => by
      have hjl := (List.getElem?_eq_some_iff.1 hj).1
      rw [By_length] at hjl
      rw [By_get _ j hjl] at hj
      rw [hcell j (by omega)]
      exact hj) (by rw [hcl0]; omega) (By_one _)
    rw [hcl0] at hr
    refine ⟨W.setRow g (cur.toList.take o ++ By ys ++ cur.toList.drop (o + m)).toArray, hr, ⟨?_, .inr ⟨g, cap, _, rfl, hg, setRow_heap W g _ _ 5 _ hh, hnc, hmx, ?_, ?_⟩⟩, (Only.refl (fun k => k = g) W).setRow (.inl rfl) _⟩
    · rw [By_length, length_splice _ _ _ (by omega), hxl, Nat.mul_one]
    · simp [hcl0]
      omega
    · rw [Nat.mul_one] at ht ⊢
      have e1 : cur.toList.take o = (By xs).take o := by rw [← ht, List.take_take, Nat.min_eq_left (by omega)]
      have e2 : (cur.toList.drop (o + m)).take (n - (o + m)) = (By xs).drop (o + m) := by rw [← ht, List.drop_take]
      have e3 : ((By xs).take o).length = o := by rw [List.length_take, h1]; omega
      have e4 : n - o - m = n - (o + m) := by omega
      rw [e1, List.append_assoc, List.take_append, e3, List.take_of_length_le (by rw [e3]; omega), List.take_append, hcl0, List.take_of_length_le (l := By ys) (by rw [hcl0]; omega), e4, e2]
      unfold splice
      simp [By, hyl]
/-- A tree and a row of bytes lie apart, made since w; the blocks of B beside them. -/
structure WsW (w W : World) (t : Nat) (σ : Tr) (v : Value) (xs : List Int) (B : Nat → Prop) : Prop where
  row : W.ownsRow w.heap.size 5 1 v xs.length (By xs)
  own : OwnT w W t σ (fun k => v.ownBlock = some k ∨ B k)
  lt : ∀ k, B k → k < W.heap.size ∧ v.ownBlock ≠ some k
theorem owns_kept {W W' : World} {b : Nat} {e : TypeId} {s : Nat} {v : Value} {n : Nat} {xs : List Value} (h : W.ownsRow b e s v n xs) (hk : ∀ k, v.ownBlock = some k → W'.heap[k]? = W.heap[k]?) : W'.ownsRow b e s v n xs := by
  refine ⟨h.1, ?_⟩
  rcases h.2 with hn | ⟨g, cap, cur, rfl, h1, h2, h3⟩
  · exact .inl hn
  · exact .inr ⟨g, cap, cur, rfl, h1, (hk g rfl).trans h2, h3⟩
variable {w W : World} {t : Nat} {σ σ' : Tr} {v : Value} {xs : List Int} {B : Nat → Prop}
theorem WsW.then {W' : World} (h : WsW w W t σ v xs B) (hB : Below W.heap.size W W') : WsW w W' t σ v xs B :=
  ⟨owns_kept h.row (fun k hk => hB.block k (h.row.lt k hk).2), h.own.then hB, fun k hk => ⟨Nat.lt_of_lt_of_le (h.lt k hk).1 hB.size, (h.lt k hk).2⟩⟩
theorem WsW.less {B' : Nat → Prop} (h : WsW w W t σ v xs B) (hB : ∀ k, B' k → B k) : WsW w W t σ v xs B' :=
  ⟨h.row, h.own.less (fun k hk => hk.imp id (hB k)), fun k hk => h.lt k (hB k hk)⟩
theorem WsW.box (h : WsW w W t σ v xs B) (o : Obj) : WsW w (W.alloc o) t σ v xs (fun k => B k ∨ k = W.heap.size) := by
  refine ⟨h.row.alloc o, (h.own.box o).less (fun k hk => ?_), fun k hk => ?_⟩
  · rcases hk with hk | hk | hk
    · exact .inl (.inl hk)
    · exact .inl (.inr hk)
    · exact .inr hk
  · rcases hk with hk | rfl
    · have := h.lt k hk; exact ⟨by simp; omega, this.2⟩
    · exact ⟨by simp, fun e => by have := (h.row.lt _ e).2; omega⟩
theorem WsW.below (h : WsW w W t σ v xs B) : Below w.heap.size w W := h.own.below
theorem wsw_none (h : OwnT w W t σ (fun _ => False)) : WsW w W t σ (.slice none 0 0) [] (fun _ => False) :=
  ⟨World.ownsRow_nil _ _ _ _, h.less (fun k hk => by rcases hk with hk | hk; exact (by simp [Value.ownBlock] at hk); exact hk), fun k hk => hk.elim⟩
/-- A call of Do. -/
theorem wsw_doQ {F : FuncId} {vs : Array Value} {Q : Ending → World → Prop} (h : WsW w W t σ v xs B) (hC : ∀ Ls, TrAt W t σ Ls → (∀ k ∈ feet t Ls, w.heap.size ≤ k) → Calls Tryz.prog F vs W fun e w' => Q e w' ∧ Step (fun k => k ∈ feet t Ls) W t w' σ') :
    Calls Tryz.prog F vs W fun e w' => Q e w' ∧ WsW w w' t σ' v xs B ∧ (∀ k, B k → w'.heap[k]? = W.heap[k]?) ∧ W.heap.size ≤ w'.heap.size := by
  refine (own_doQ h.own (fun k hk => hk.elim (fun e => (h.row.lt k e).2) (fun e => (h.lt k e).1)) (fun Ls hT hk => hC Ls hT (fun k hk2 => (hk k hk2).1))).mono ?_
  rintro e w' ⟨hq, h1, h2, h3⟩
  exact ⟨hq, ⟨owns_kept h.row (fun k hk => h2 k (.inl hk)), h1, fun k hk => ⟨Nat.lt_of_lt_of_le (h.lt k hk).1 h3, (h.lt k hk).2⟩⟩, fun k hk => h2 k (.inr hk), h3⟩
theorem wsw_do {F : FuncId} {vs : Array Value} {u : Value} (h : WsW w W t σ v xs B) (hC : ∀ Ls, TrAt W t σ Ls → (∀ k ∈ feet t Ls, w.heap.size ≤ k) → Calls Tryz.prog F vs W fun e w' => e = .returned u ∧ Step (fun k => k ∈ feet t Ls) W t w' σ') :
    Calls Tryz.prog F vs W fun e w' => e = .returned u ∧ WsW w w' t σ' v xs B ∧ (∀ k, B k → w'.heap[k]? = W.heap[k]?) ∧ W.heap.size ≤ w'.heap.size := wsw_doQ h hC
/-- append(want, x). -/
theorem wsw_append (h : WsW w W t σ v xs B) (x : Int) (hn : xs.length ≤ 16777216) :
    ∃ v' W', (Builtin.append_ #[31, 31] 31 #[v, .slice (some ⟨W.heap.size, 0, none⟩) 1 1]).run Tryz.prog (W.alloc (.cells #[.int .u8 x] 5)) = .ok v' W' ∧ WsW w W' t σ v' (xs ++ [x]) B ∧ (∀ k, B k → W'.heap[k]? = W.heap[k]?) ∧ W.heap.size ≤ W'.heap.size := by
  obtain ⟨i0, hi, hz0, hz1, hz2⟩ := info5p
  have hnew := blk_new W (.cells #[.int .u8 x] 5)
  obtain ⟨hO, Ls, hT, hf⟩ := h.own
  have hsz := hO.size
  obtain ⟨g, cap, W3, hr, hown3, hg3, hg, hlt⟩ := run_append_lies (P := Tryz.prog) (W.alloc (.cells #[.int .u8 x] 5)) 31 31 w.heap.size 5 i0 (.int .u8 0) 1 1 Tryz.underlying31 hi hz0 hz1 hz2 rfl (by decide) v xs.length (By xs) (h.row.alloc _) ⟨W.heap.size, 0, none⟩ 1 1 [.int .u8 x] rfl (fun j u hj => by
    match j, hj with
    | 0, hj => cases hj; rw [add_at, blk_cell hnew]; rfl) (fun u hu => by rw [List.mem_singleton.1 hu]; rfl) (by omega) (by unfold maxLen; omega) (by omega) (by simp; omega) _ rfl
  have e : By xs ++ [.int .u8 x] = By (xs ++ [x]) := by simp [By]
  rw [e] at hown3
  have ho : Only (fun k => v.ownBlock = some k) W W3 := ((Only.refl _ W).alloc _).grown hg3 (fun k e => .inl e)
  rw [World.size_alloc] at hg
  have hk : ∀ k, k < W.heap.size → v.ownBlock ≠ some k → W3.heap[k]? = W.heap[k]? := fun k h1 h2 => ho.block k h1 h2
  refine ⟨_, W3, hr, ⟨by rw [List.length_append, List.length_singleton]; exact hown3, ⟨?_, Ls, hT.kept (fun k hkf => hk k (hT.lt k hkf) (fun e => (hf k hkf).2 (.inl e))), fun k hkf => ⟨(hf k hkf).1, ?_⟩⟩, fun k e => ⟨Nat.lt_of_lt_of_le (h.lt k e).1 ho.size, ?_⟩⟩, fun k e => hk k (h.lt k e).1 (h.lt k e).2, ho.size⟩
  · exact hO.trans (ho.below hO.size (fun k e => (h.row.lt k e).1))
  · rintro (e | e)
    · have hgk : g = k := by simpa [Value.ownBlock] using e
      subst hgk
      rcases hg with hg | hg
      · exact (hf _ hkf).2 (.inl hg)
      · have := hT.lt _ hkf; omega
    · exact (hf k hkf).2 (.inr e)
  · intro e2
    have hgk : g = k := by simpa [Value.ownBlock] using e2
    subst hgk
    rcases hg with hg | hg
    · exact (h.lt _ e).2 hg
    · have := (h.lt _ e).1; omega
/-- copy(want[o:], ys). -/
theorem wsw_copy {g n cap : Nat} (hn : xs.length = n) (h : WsW w W t σ (.slice (some ⟨g, 0, none⟩) n cap) xs B) (o m c : Nat) (ys : List Int) (ao : Option Addr) (hb : BAt W ao m ys) (hm : 0 < m) (ho : o + m ≤ n) :
    ∃ W', (Builtin.copy_ #[31, 31] 3 #[.slice (some ⟨g, o, none⟩) (n - o) (cap - o), .slice ao m c]).run Tryz.prog W = .ok (.int .i64 m) W' ∧ WsW w W' t σ (.slice (some ⟨g, 0, none⟩) n cap) (splice xs o ys) B ∧ Below w.heap.size w W' := by
  subst hn
  obtain ⟨W', hr, hown, ho'⟩ := copy_own W w.heap.size g xs.length cap o m c xs ys ao h.row hb hm ho
  obtain ⟨hO, Ls, hT, hf⟩ := h.own
  have hb2 : ∀ k, k = g → Value.ownBlock (.slice (some ⟨g, 0, none⟩) xs.length cap) = some k := fun k e => by rw [e]; rfl
  have hl : (splice xs o ys).length = xs.length := length_splice _ _ _ (by rw [hb.1]; exact ho)
  have hbl : Below w.heap.size w W' := hO.trans (ho'.below hO.size (fun k e => (h.row.lt k (hb2 k e)).1))
  exact ⟨W', hr, ⟨by rw [hl]; exact hown, ⟨hbl, Ls, hT.kept (fun k hkf => ho'.block k (hT.lt k hkf) (fun e => (hf k hkf).2 (.inl (hb2 k e)))), hf⟩, fun k e => ⟨Nat.lt_of_lt_of_le (h.lt k e).1 ho'.size, (h.lt k e).2⟩⟩, hbl⟩
-- the calls
def wsP : ByteArray := ⟨#[47, 102]⟩
theorem ws_way {N : List Nd} {l z : Int} {s : List Slt} {p : List UInt8} (h : N[0]? = some (.dir l z s)) (hl : lookS s p = some 1) : wayE N 0 [p] = (some 1, 0) := by
  have := (way_dir [] h hl).2
  unfold wayE
  rw [this]
  rfl
theorem ws_node {D Bk z : Int} {p : List (Int × List Int)} : nodeE (wsT D Bk z p).nodes (ofS wsP) = (some 1, 0) := by
  unfold nodeE
  rw [show splitL (ofS wsP) = some [[102]] from by decide]
  show wayE (wsT D Bk z p).nodes 0 [[102]] = _
  exact ws_way (l := 2) (z := 1024) (s := wsS) rfl (by decide)
theorem ws_file {D Bk z : Int} {p : List (Int × List Int)} : fileE (wsT D Bk z p).nodes (ofS wsP) = (some 1, 0) := by
  unfold fileE
  rw [ws_node]
  rfl
theorem ws_do2 {K : Int} {want ys : List Int} {Bk z D B' z' : Int} {p p' : List (Int × List Int)} (h : WsW w W t (wsT D Bk z p) v xs B) (hp : WsOk K want Bk z p) {off : Nat} (hw : writeT (wsT D Bk z p) off ys 1 = wsT D B' z' p') (a : Addr) (dc : Nat) (h0 : 0 < ys.length) (h1 : ys.length ≤ 8192) (hdc : ys.length ≤ dc) (hdc2 : dc ≤ 9223372036854775807) (hk : (off : Int) + ys.length ≤ K * 1024) (hK : 0 ≤ K) (hK2 : K ≤ 264) (hD : blkI 1 1 D = D) (hI : inoI 1 1 D = 16) (hDK : K + 2 ≤ D) (hX : BAt W (some a) ys.length ys) (ha : a.block < w.heap.size) :
    Calls Tryz.prog 13 #[ptrV t, callV 8 wsP ⟨#[]⟩ off 0 (.slice (some a) ys.length dc)] W fun e w' => e = .returned (.agg #[.int .i64 0, .slice none 0 0, .int .i64 0, .int .i64 0, .int .i64 0, .slice none 0 0, .int .i64 ys.length]) ∧ WsW w w' t (wsT D B' z' p') v xs B ∧ (∀ k, B k → w'.heap[k]? = W.heap[k]?) ∧ W.heap.size ≤ w'.heap.size :=
  wsw_do h (fun Ls hT hf => by
    have hlen := hp.len hK
    have := doo_write W t _ Ls hT (hp.good hK (by omega)) wsP ⟨#[]⟩ off 0 a ys.length dc ys (by decide) 1 ws_file (show 1 < 2 by decide) rfl (by omega) h0 h1 hdc hdc2 (by omega) hX (fun hh => by have := hf _ hh; omega) (by show p.length ≤ _; omega) (ws_fit hp h0 hk hK hK2 hD hI hDK)
    rw [hw] at this
    exact this)
theorem ws_do3 {K : Int} {want : List Int} {Bk z D : Int} {p : List (Int × List Int)} (h : WsW w W t (wsT D Bk z p) v xs B) (hp : WsOk K want Bk z p) {off n : Nat} (hK : 0 ≤ K) (hK2 : K ≤ 65800) (hoff : off ≤ 67379200) (hn : n ≤ 8192) (hz : want.length ≤ 67379200) (L : Nat) (hL : L = min n (want.length - off)) :
    Calls Tryz.prog 13 #[ptrV t, callV 7 wsP ⟨#[]⟩ off n (.slice none 0 0)] W fun e w' => ∃ g, e = .returned (readV g L) ∧ RAt w' g ((want.drop off).take L) ∧ WsW w w' t (wsT D Bk z p) v xs (fun k => B k ∨ k = g) ∧ (∀ k, B k → w'.heap[k]? = W.heap[k]?) ∧ W.heap.size ≤ w'.heap.size := by
  obtain ⟨hO, Ls, hT, hf⟩ := h.own
  have hs := hp.size
  have hzz : (nodeAt (wsT D Bk z p).nodes 1).size = z := rfl
  have hpp : (nodeAt (wsT D Bk z p).nodes 1).parts = p := rfl
  refine (do_read W t (wsT D Bk z p) Ls wsP ⟨#[]⟩ off n none 0 0 0 0 0 0 0 (fun x y X => BytesQ (W.heap.size + 2) L ((want.drop off).take L) x y X ∧ TrAt X t (wsT D Bk z p) Ls) (fun k hk => hT.lt k hk) (fun x y W1 W2 hh ho => ?_) (Hid.mk (fun X hB hsz => (read_main X t (wsT D Bk z p) Ls (hT.below rfl hB) (hp.good hK hK2) 7 wsP ⟨#[]⟩ off n none 0 0 (by decide) 1 ws_file (show 1 < 2 by decide) rfl (by omega) (by omega) (by omega) (by omega) (by rw [hzz]; omega) L (by rw [hzz]; omega)).mono (fun e w' hh => ?_)))).mono ?_
  · obtain ⟨⟨h1, g, h2, h3, h4⟩, h7⟩ := hh
    exact ⟨⟨h1, g, h2, (ho.block g (lt_of_block h3) (by omega)).trans h3, h4⟩, h7.kept (fun k hk => ho.block k (h7.lt k hk) (fun e => by have := hT.lt k hk; omega))⟩
  · obtain ⟨g, h1, h2, h3, h4⟩ := hh
    rw [hpp, ws_read hp off L (by omega)] at h3
    exact ⟨_, _, _, none, 0, 0, h1, Step.still (hT.below rfl hB) (fun k hk => hk) h2, ⟨rfl, g, rfl, h3, by omega⟩, (hT.below rfl hB).below rfl h2⟩
  · rintro e w' ⟨a1, n1, c1, a5, n5, c5, rfl, hst, ⟨h1, g, h2, h3, h4⟩, h7⟩
    cases h1; cases h2
    have hk : ∀ k, k < W.heap.size → k ∉ feet t Ls → w'.heap[k]? = W.heap[k]? := fun k h1 h2 => hst.only.block k h1 h2
    have hB : ∀ k, (v.ownBlock = some k ∨ B k) → k ∉ feet t Ls := fun k h1 h2 => (hf k h2).2 h1
    refine ⟨g, rfl, h3, ⟨owns_kept h.row (fun k e => hk k (h.row.lt k e).2 (hB k (.inl e))), ⟨?_, Ls, h7, fun k hkf => ⟨(hf k hkf).1, ?_⟩⟩, ?_⟩, fun k e => hk k (h.lt k e).1 (hB k (.inr e)), hst.only.size⟩
    · exact ((Only.of_below (S := fun _ => False) hO (fun k h1 h2 => by omega)).trans hst.only (fun i hi => .inr (hf i hi).1)).below (Nat.le_refl _) (fun _ h => h.elim)
    · rintro (e | e | e)
      · exact (hf k hkf).2 (.inl e)
      · exact (hf k hkf).2 (.inr e)
      · have := hT.lt k hkf; omega
    · rintro k (e | e)
      · exact ⟨Nat.lt_of_lt_of_le (h.lt k e).1 hst.only.size, (h.lt k e).2⟩
      · subst e; exact ⟨lt_of_block h3, fun e2 => by have := (h.row.lt _ e2).2; omega⟩
theorem ws_do4 {Bk z D : Int} {p : List (Int × List Int)} (h : WsW w W t (wsT D Bk z p) v xs B) :
    Calls Tryz.prog 13 #[ptrV t, callV 10 wsP ⟨#[]⟩ 0 0 (.slice none 0 0)] W fun e w' => e = .returned (.agg #[.int .i64 0, .slice none 0 0, .int .i64 1, .int .i64 z, .int .i64 1, .slice none 0 0, .int .i64 0]) ∧ WsW w w' t (wsT D Bk z p) v xs B ∧ (∀ k, B k → w'.heap[k]? = W.heap[k]?) ∧ W.heap.size ≤ w'.heap.size :=
  wsw_do h (fun Ls hT hf => doo_stat W t _ Ls hT wsP ⟨#[]⟩ 0 0 none 0 0 (by decide) 0 1 z 1 (by unfold statV; rw [ws_node]; rfl))
/-- An empty write. -/
theorem ws_do5 {Bk z D : Int} {p : List (Int × List Int)} (h : WsW w W t (wsT D Bk z p) v xs B) {off : Nat} (ho : off ≤ 67379200) (dp : Option Addr) (dl dc : Nat) (hd : dl = 0) :
    Calls Tryz.prog 13 #[ptrV t, callV 8 wsP ⟨#[]⟩ off 0 (.slice dp dl dc)] W fun e w' => e = .returned (errV 0) ∧ WsW w w' t (wsT D Bk z p) v xs B ∧ (∀ k, B k → w'.heap[k]? = W.heap[k]?) ∧ W.heap.size ≤ w'.heap.size :=
  wsw_do h (fun Ls hT hf => doo_write_none W t _ Ls hT wsP ⟨#[]⟩ off 0 dp dl dc (by decide) (by omega) (by omega) hd 1 ws_file)
theorem lW_any2 (w : World) (s : ByteArray) (off : Int) (ao : Option Addr) (dl dc : Nat) : Calls Tryz.prog 26 #[.string s, .int .i64 off, .slice ao dl dc] w fun x w' => x = .returned (callV 8 s ⟨#[]⟩ off 0 (.slice ao dl dc)) ∧ Below w.heap.size w w' := by
  go_enter Tryz.func26, Tryz.ntmps26
  go_wp2
  refine bodyPost_ret (v := callV 8 s ⟨#[]⟩ off 0 (.slice ao dl dc)) ?_ rfl ⟨rfl, ?_⟩
  · simp [results, Tryz.results26, go_sem, callV]
  · exact (Below.refl _ w).alloc (Nat.le_refl _) _
theorem ws_do1 (D : Int) (he : enterS (newT 1 1 D) [47, 102] newF = (0, wsT D 1 0 [])) (hO : OwnT w W t (newT 1 1 D) B) (hB : ∀ k, B k → k < W.heap.size) : Calls Tryz.prog 13 #[ptrV t, callV 1 wsP ⟨#[]⟩ 0 0 (.slice none 0 0)] W fun e w' => e = .returned (errV 0) ∧ OwnT w w' t (wsT D 1 0 []) B ∧ (∀ k, B k → w'.heap[k]? = W.heap[k]?) ∧ W.heap.size ≤ w'.heap.size :=
  own_do hO hB (fun Ls hT => by
    have := doo_create W t _ Ls hT (new_ok _ _ _) wsP ⟨#[]⟩ 0 0 none 0 0 (by decide)
    rw [show ofS wsP = [47, 102] from rfl, he] at this
    exact this)
theorem ws_first900 : enterS (newT 1 1 900) [47, 102] newF = (0, wsT 900 1 0 []) := by kernel_rfl
theorem ws_first100 : enterS (newT 1 1 100) [47, 102] newF = (0, wsT 100 1 0 []) := by kernel_rfl
theorem ws_good900 : blkI 1 1 900 = 900 ∧ inoI 1 1 900 = 16 := by decide
theorem ws_good100 : blkI 1 1 100 = 100 ∧ inoI 1 1 100 = 16 := by decide
theorem wpList_knownR {P : Program} {w : World} {ops : Array Oper} {rest : List Oper} {o : Oper} {a : Act} {Q : Exit → Act → World → Prop} (hw : Region.wanted o (yielded ops a.tmps) = true) (v : Value) (w' : World)
    (hrun : (execOp a.eval o).run P w = .ok (.value v) w') (h : wpList P ops Q rest (a.put o.dst v) w') : wpList P ops Q (o :: rest) a w := by
  refine BigFrame.wpList_want hw fun K hK => ?_
  unfold Oper.wp
  rw [hrun, Oper.upon_value]
  exact hK _ _ h
/-- What the row is as a value. -/
theorem WsW.val (h : WsW w W t σ v xs B) : ∃ ao c, v = .slice ao xs.length c ∧ xs.length ≤ c ∧ c ≤ 9223372036854775807 ∧ ((ao = none ∧ xs.length = 0 ∧ c = 0) ∨ ∃ g, ao = some ⟨g, 0, none⟩) ∧ BAt W ao xs.length xs := by
  rcases h.row.2 with ⟨hn, h0⟩ | ⟨g, cap, cur, hv, h1, h2, h3, h4, h5, h6⟩
  · exact ⟨none, 0, by rw [hn, h0], by omega, by omega, .inl ⟨rfl, h0, rfl⟩, ⟨rfl, fun hh => by omega⟩⟩
  · refine ⟨_, cap, hv, h3, by unfold maxLen at h4; omega, .inr ⟨g, rfl⟩, rfl, fun hh => ⟨_, rfl, (lt_of_block h2), fun i hi => ?_⟩⟩
    have hr := h.row
    rw [hv] at hr
    rw [add_at, Nat.zero_add, hr.cellAt i (by omega), By_get _ i hi]
/-- want[o:e]. -/
theorem part_run (ao : Option Addr) (n c o e : Nat) (h : o ≤ e ∧ e ≤ n ∧ n ≤ c ∧ c ≤ 9223372036854775807) (hg : (ao = none ∧ n = 0 ∧ c = 0) ∨ ∃ g, ao = some ⟨g, 0, none⟩) : ∃ bo c', (∀ (ev : Operand → Value) (oi : Oper) (s y z : Operand) (W : World), oi.op = .slice 31 s (some y) (some z) none → ev s = .slice ao n c → ev y = .int .i64 (o : Int) → ev z = .int .i64 (e : Int) → (execOp ev oi).run Tryz.prog W = .ok (.value (.slice bo (e - o) c')) W) ∧ ∀ W xs, BAt W ao n xs → BAt W bo (e - o) ((xs.drop o).take (e - o)) := by
  rcases hg with ⟨rfl, rfl, rfl⟩ | ⟨g, rfl⟩
  · obtain rfl : e = 0 := by omega
    obtain rfl : o = 0 := by omega
    refine ⟨none, 0, fun ev oi s y z W ho hs hy hz => ?_, fun W xs hb => ⟨by simp, fun h => by omega⟩⟩
    unfold execOp
    rw [ho]
    simp only [hs, hy, hz, Option.map]
    go_simp
  · by_cases hco : c = o
    · obtain rfl : e = o := by omega
      obtain rfl : n = e := by omega
      subst hco
      refine ⟨some ⟨g, 0, none⟩, c - c, fun ev oi s y z W ho hs hy hz => ?_, fun W xs hb => ⟨by simp, fun h => by omega⟩⟩
      unfold execOp
      rw [ho]
      simp only [hs, hy, hz, Option.map]
      go_simp
    · refine ⟨some ⟨g, o, none⟩, c - o, fun ev oi s y z W ho hs hy hz => ?_, fun W xs hb => ?_⟩
      · unfold execOp
        rw [ho]
        simp only [hs, hy, hz, Option.map]
        have a1 : e ≤ n := by omega
        have a2 : o ≤ e := by omega
        have a3 : ¬ c = o := hco
        have a4 : e ≤ c := by omega
        go_simp
      · have h1 := hb.from o (by omega)
        rw [add_at, Nat.zero_add] at h1
        exact h1.upto (by omega)
theorem exec_slW {ev : Operand → Value} {oi : Oper} {s y : Operand} {W : World} (g n c o : Nat) (h : o < n ∧ n ≤ c ∧ c ≤ 9223372036854775807) (ho : oi.op = .slice 31 s (some y) none none) (hs : ev s = .slice (some ⟨g, 0, none⟩) n c) (hy : ev y = .int .i64 (o : Int)) : (execOp ev oi).run Tryz.prog W = .ok (.value (.slice (some ⟨g, o, none⟩) (n - o) (c - o))) W := by
  unfold execOp
  rw [ho]
  simp only [hs, hy, Option.map]
  have a1 : o ≤ n := by omega
  have a2 : ¬ c = o := by omega
  have a3 : o ≤ c := by omega
  go_simp
theorem lmin_lt (w : World) (x y : Int) (h : x < y) : Calls Tryz.prog 27 #[.int .i64 x, .int .i64 y] w fun e w' => e = .returned (.int .i64 x) ∧ w' = w := by
  go_enter Tryz.func27, Tryz.ntmps27
  go_wp2
  go_ret
  exact ⟨rfl, rfl⟩
theorem lmin_ge (w : World) (x y : Int) (h : ¬ x < y) : Calls Tryz.prog 27 #[.int .i64 x, .int .i64 y] w fun e w' => e = .returned (.int .i64 y) ∧ w' = w := by
  go_enter Tryz.func27, Tryz.ntmps27
  go_wp2
  go_ret
  exact ⟨rfl, rfl⟩
/-- The length of a slice. -/
def lenV : Value → Nat
  | .slice _ n _ => n
  | _ => 0
end Go.Proofs.YtehaoeclnmelhaaGreat
namespace Go.Proofs.YtehaoeclnmelhaaGreat
open Go Go.Proofs Go.RowKit Go.Shelf Go.Sort

theorem exec_neqL {ev : Operand → Value} {oi : Oper} {x y : Operand} {W : World} (n : Nat) (h : n = 0) (ho : oi.op = .binOp .neq 3 x y 3) (hx : ev x = .int .i64 0) (hy : ev y = .int .i64 n) : (execOp ev oi).run Tryz.prog W = .ok (.value (.bool false)) W := by
  subst h
  unfold execOp
  rw [ho]
  simp only [hx, hy]
  go_simp
/-- Nothing is copied into none. -/
theorem copy_none (ao : Option Addr) (n c : Nat) (hn : n = 0) (W : World) : (Builtin.copy_ #[31, 31] 3 #[.slice none 0 0, .slice ao n c]).run Tryz.prog W = .ok (.int .i64 0) W := by
  subst hn
  unfold Builtin.copy_
  cases ao <;> go_simp
/-- A guard: at an operation. -/
theorem wpList_it {P : Program} {w : World} {ops : Array Oper} {l : List Oper} {a : Act} {Q : Exit → Act → World → Prop} (h : wpList P ops Q l a w) : wpList P ops Q l a w := h
set_option maxRecDepth 100000 in
set_option maxHeartbeats 4000000 in
theorem writes_law (w : World) (bo : Option Addr) (m c : Nat) (offs : List Int) (hO : LAt w bo m offs) (ao : Option Addr) (dl dc : Nat) (xs : List Int) (hX : BAt w ao dl xs) (hdc : dl ≤ dc) (hdc2 : dc ≤ 9223372036854775807) (fr n : Int) : Calls Tryz.prog 7 #[.slice bo m c, .slice ao dl dc, .int .i64 fr, .int .i64 n] w fun e w' => e = .returned (.bool true) ∧ Below w.heap.size w w' := by
  have HA := Hid.mk (alive_any w)
  by_cases c1 : (20 : Int) < m
  · go_enter Tryz.func7, Tryz.ntmps7
    go_wp2_with (go_at_call 9; refine HA.out.mono ?_; rintro e W0 ⟨rfl, hw⟩; have HB := Hid.mk hw; clear hw)
    go_ret
    exact ⟨rfl, HB.out⟩
  by_cases c2 : (3000 : Int) < dl
  · go_enter Tryz.func7, Tryz.ntmps7
    go_wp2_with (go_at_call 9; refine HA.out.mono ?_; rintro e W0 ⟨rfl, hw⟩; have HB := Hid.mk hw; clear hw)
    go_ret
    exact ⟨rfl, HB.out⟩
  by_cases c3 : fr < 0
  · go_enter Tryz.func7, Tryz.ntmps7
    go_wp2_with (go_at_call 9; refine HA.out.mono ?_; rintro e W0 ⟨rfl, hw⟩; have HB := Hid.mk hw; clear hw)
    go_ret
    exact ⟨rfl, HB.out⟩
  by_cases c4 : 40000 < fr
  · go_enter Tryz.func7, Tryz.ntmps7
    go_wp2_with (go_at_call 9; refine HA.out.mono ?_; rintro e W0 ⟨rfl, hw⟩; have HB := Hid.mk hw; clear hw)
    go_ret
    exact ⟨rfl, HB.out⟩
  by_cases c5 : n < 0
  · go_enter Tryz.func7, Tryz.ntmps7
    go_wp2_with (go_at_call 9; refine HA.out.mono ?_; rintro e W0 ⟨rfl, hw⟩; have HB := Hid.mk hw; clear hw)
    go_ret
    exact ⟨rfl, HB.out⟩
  by_cases c6 : 8192 < n
  · go_enter Tryz.func7, Tryz.ntmps7
    go_wp2_with (go_at_call 9; refine HA.out.mono ?_; rintro e W0 ⟨rfl, hw⟩; have HB := Hid.mk hw; clear hw)
    go_ret
    exact ⟨rfl, HB.out⟩
  obtain ⟨FR, rfl⟩ : ∃ k : Nat, fr = k := ⟨fr.toNat, by omega⟩
  obtain ⟨N, rfl⟩ : ∃ k : Nat, n = k := ⟨n.toNat, by omega⟩
  have hxl : xs.length = dl := hX.1
  subst hxl
  have HD : Hid (m ≤ 20 ∧ xs.length ≤ 3000 ∧ FR ≤ 40000 ∧ N ≤ 8192) := Hid.mk (by omega)
  have HO := Hid.mk hO
  have HX := Hid.mk hX
  have HDC : Hid (xs.length ≤ dc ∧ dc ≤ 9223372036854775807) := Hid.mk ⟨hdc, hdc2⟩
  clear hO hX hdc hdc2
  go_enter Tryz.func7, Tryz.ntmps7
  go_wp2_with (first
    | (go_at_call 9; refine HA.out.mono ?_; rintro e W0 ⟨rfl, hw⟩; have HB := Hid.mk hw; clear hw)
    | (go_at_call 24; refine (lG_any _ _).mono ?_; rintro e W1 ⟨rfl, hB1⟩; have B1 := Hid.mk (HB.out.trans (hB1.mono HB.out.size)); clear hB1)
    | (go_at_call 11; refine (new_any _ 1 1 900).mono ?_; rintro e W2 ⟨rfl, hT2, hB2⟩; have O0 : Hid (OwnT w W2 (W1.heap.size + 4) (newT 1 1 900) (fun _ => False)) := Hid.mk ⟨B1.out.trans (hB2.mono B1.out.size), _, hT2, fun k hk => ⟨by simp [feet, Lay.foot] at hk; have := B1.out.size; omega, fun h => h⟩⟩; unfold ptrV; clear hT2 hB2)
    | (go_at_call 25; refine (lC_any _ _ _).mono ?_; rintro e W3 ⟨rfl, hB3⟩; have O1 := Hid.mk (O0.out.then hB3); unfold callV; clear hB3)
    | (go_at_call 13; refine (ws_do1 900 ws_first900 O1.out (fun k h => h.elim)).mono ?_; rintro e W4 ⟨rfl, hO, -, -⟩; have O2 := Hid.mk (wsw_none hO); unfold errV; clear hO))
  generalize W1.heap.size + 4 = t at *
  clear HB B1 O0 O1
  go_loopw [11, 12] (fun v i wr => ∃ (k : Nat) (want : List Int) (Bk z : Int) (p : List (Int × List Int)), k ≤ m ∧ i = .int .i64 k ∧ WsW w wr t (wsT 900 Bk z p) v want (fun _ => False) ∧ WsOk 33 want Bk z p ∧ want.length ≤ 33000 ∧ (xs.length = 0 → v = .slice none 0 0 ∧ want = [])) (fun _ i _ => m - (intOf i).toNat)
  case atStart => exact ⟨0, [], 1, 0, [], by omega, rfl, O2.out, ws_none 33, by simp, fun _ => ⟨rfl, rfl⟩⟩
  case round =>
    obtain ⟨k, want, Bk, z, p, hk, rfl, hW, hP, hlw, he⟩ := hrel
    have WK := Hid.mk hW
    have PK := Hid.mk hP
    have LK := Hid.mk hlw
    have EK := Hid.mk he
    clear hW hP hlw he O2 c1 c2 c3 c4 c5 c6
    by_cases hlt : k < m
    · have hi : (k : Int) < (m : Int) := by omega
      obtain ⟨b', eb, hc⟩ := (HO.out.blw WK.out.below).at k hlt
      subst eb
      obtain ⟨x, hx⟩ : ∃ x, offs.getD k 0 = x := ⟨_, rfl⟩
      rw [hx] at hc
      have HXX := Hid.mk hx
      clear hx
      by_cases x1 : x < 0
      · have PB := Hid.mk WK.out.below
        clear hlt hk
        go_wp2_with fail
        go_ret
        exact ⟨rfl, PB.out⟩
      by_cases x2 : 30000 < x
      · have PB := Hid.mk WK.out.below
        clear hlt hk
        go_wp2_with fail
        go_ret
        exact ⟨rfl, PB.out⟩
      obtain ⟨off, rfl⟩ : ∃ off : Nat, x = off := ⟨x.toNat, by omega⟩
      have HOF : Hid (off ≤ 30000 ∧ k < m ∧ m ≤ 20) := Hid.mk (by have := HD.out; omega)
      have hw1 : IntKind.i64.wrap ((k : Int) + 1) = (k : Int) + 1 := by rw [IntKind.wrap_i64]; have := HD.out; omega
      by_cases h0 : xs.length = 0
      · have hx0 : ¬ ((0 : Int) < (xs.length : Int)) := by omega
        obtain ⟨hv, hw0⟩ := EK.out h0
        subst hv
        subst hw0
        have HXN : Hid (xs.length = 0) := Hid.mk h0
        have HCN := Hid.mk (copy_none ao xs.length dc h0)
        clear hlt hk h0
        go_upto_region 15 with (first
          | (go_at_call 26; refine (lW_any2 _ _ _ _ _ _).mono ?_; rintro e W5 ⟨rfl, hB5⟩; have O3 := Hid.mk (WK.out.then hB5); unfold callV; clear hB5)
          | (go_at_call 13; refine (ws_do5 O3.out (by have := HOF.out; omega) ao xs.length dc HXN.out).mono ?_; rintro e W6 ⟨rfl, hO, -, -⟩; have O4 := Hid.mk ((hO.box (.cells #[.int .i64 0, .slice none 0 0, .int .i64 0, .int .i64 0, .int .i64 0, .slice none 0 0, .int .i64 0] 37)).less (B' := fun _ => False) (fun _ h => h.elim)); unfold errV; clear hO)
          | (with_reducible refine wpList_it ?_; refine wpList_knownR (by kernel_rfl) (.bool false) _ (exec_neqL (x := .tmp 84) (y := .tmp 86) xs.length HXN.out rfl (by kernel_rfl) (by kernel_rfl)) ?_; simp only [Act.put, List.setIfInBounds_toArray, List.set_cons_zero, List.set_cons_succ])
          | (go_at_call 23; refine (lnum_any _ _).mono ?_; rintro e W9 ⟨rfl, hw⟩; subst hw))
        obtain ⟨Y, hY⟩ : ∃ Y, Y = W6.alloc (.cells #[.int .i64 0, .slice none 0 0, .int .i64 0, .int .i64 0, .int .i64 0, .slice none 0 0, .int .i64 0] 37) := ⟨_, rfl⟩
        rw [← hY] at O4 ⊢
        generalize W6.heap.size = b6 at *
        clear hY hc WK
        have hc3 := ((HO.out.blw O4.out.below).at k HOF.out.2.1)
        obtain ⟨b2, eb, hc⟩ := hc3
        cases eb
        rw [HXX.out] at hc
        go_loopw [11] (fun v2 wr2 => v2 = .slice none 0 0 ∧ wr2 = Y) (fun _ _ => 0)
        case atStart => exact ⟨rfl, rfl⟩
        case round =>
          obtain ⟨rfl, rfl⟩ := hrel
          have hneg : ¬ ((off : Int) < 0) := by omega
          go_wp2_with (first
            | (go_at_call 27; refine (lmin_ge _ _ _ hneg).mono ?_; rintro e W9 ⟨rfl, hw⟩; subst hw)
            | (rw [HCN.out]; simp only [Result.andThen_ok]))
          go_roundw
          case rel => exact ⟨k + 1, [], Bk, z, p, by have := HOF.out; omega, by go_num, O4.out, PK.out, by simp, fun _ => ⟨rfl, rfl⟩⟩
          case measure => have := HOF.out; simp [intOf]; omega
      · obtain ⟨a, ea, hal, -⟩ := HX.out.2 (by omega)
        subst ea
        have HAL := Hid.mk hal
        obtain ⟨B', z', p', e1, e2, -⟩ := ws_write (D := 900) PK.out (off := off) (xs := xs) (by omega) (by have := HD.out; have := HOF.out; omega) (by decide) (by decide)
        have HE1 := Hid.mk e1
        have HP2 := Hid.mk e2
        have hx0 : (0 : Int) < (xs.length : Int) := by omega
        have HX0 : Hid (0 < xs.length) := Hid.mk (by omega)
        have hwo : IntKind.i64.wrap ((off : Int) + (xs.length : Int)) = (off : Int) + (xs.length : Int) := by rw [IntKind.wrap_i64]; have := HD.out; have := HOF.out; omega
        clear hlt hk h0 hal e1 e2
        go_upto_region 15 with (first
          | (go_at_call 26; refine (lW_any2 _ _ _ _ _ _).mono ?_; rintro e W5 ⟨rfl, hB5⟩; have O3 := Hid.mk (WK.out.then hB5); unfold callV; clear hB5)
          | (go_at_call 13; refine (ws_do2 O3.out PK.out HE1.out a dc HX0.out (by have := HD.out; omega) HDC.out.1 HDC.out.2 (by have := HD.out; have := HOF.out; omega) (by decide) (by decide) ws_good900.1 ws_good900.2 (by decide) (HX.out.only (Only.of_new (fun _ => False) O3.out.below) (fun _ _ _ h => h)) HAL.out).mono ?_; rintro e W6 ⟨rfl, hO, -, -⟩; have O4 := Hid.mk ((hO.box (.cells #[.int .i64 0, .slice none 0 0, .int .i64 0, .int .i64 0, .int .i64 0, .slice none 0 0, .int .i64 xs.length] 37)).less (B' := fun _ => False) (fun _ h => h.elim)); clear hO O3)
          | (go_at_call 23; refine (lnum_any _ _).mono ?_; rintro e W9 ⟨rfl, hw⟩; subst hw))
        obtain ⟨Y, hY⟩ : ∃ Y, Y = W6.alloc (.cells #[.int .i64 0, .slice none 0 0, .int .i64 0, .int .i64 0, .int .i64 0, .slice none 0 0, .int .i64 xs.length] 37) := ⟨_, rfl⟩
        rw [← hY] at O4 ⊢
        generalize W6.heap.size = b6 at *
        clear hY hc WK PK HE1
        obtain ⟨need, hneed⟩ : ∃ need, need = off + xs.length - want.length := ⟨_, rfl⟩
        have HNEED := Hid.mk hneed
        clear hneed
        go_loopw [11] (fun v2 wr2 => ∃ q : Nat, q ≤ need ∧ WsW w wr2 t (wsT 900 B' z' p') v2 (want ++ zeros q) (fun _ => False)) (fun v2 _ => want.length + need - lenV v2)
        case atStart => exact ⟨0, by omega, by rw [show want ++ zeros 0 = want from by simp [zeros]]; exact O4.out⟩
        case round =>
          obtain ⟨q, hq, hW⟩ := hrel
          have WQ := Hid.mk hW
          have HQ := Hid.mk hq
          clear hW hq O4
          obtain ⟨ao2, c2, rfl, hv1, hv2, hv3, -⟩ := WQ.out.val
          have hln : (want ++ zeros q).length = want.length + q := by simp [zeros]
          obtain ⟨b2, eb, hc⟩ := (HO.out.blw WQ.out.below).at k HOF.out.2.1
          cases eb
          rw [HXX.out] at hc
          by_cases hlt : q < need
          · have hlt2 : ((want ++ zeros q).length : Int) < (off : Int) + (xs.length : Int) := by rw [hln]; have := HNEED.out; omega
            obtain ⟨v', W', hr, hW', -, -⟩ := wsw_append WQ.out 0 (by rw [hln]; have := LK.out; have := HNEED.out; have := HD.out; have := HOF.out; omega)
            rw [show want ++ zeros q ++ [0] = want ++ zeros (q + 1) from by simp [zeros, List.replicate_succ']] at hW'
            obtain ⟨ao3, c3, hv', -, -, -, -⟩ := hW'.val
            have HR := Hid.mk hr
            have HW' := Hid.mk hW'
            have HV' := Hid.mk hv'
            have HLT := Hid.mk hlt
            have HLN := Hid.mk hln
            generalize hn2 : (want ++ zeros q).length = n2 at *
            have HN2 := Hid.mk hn2
            clear hr hW' hv' hlt hln hv1 hv2 hv3 hn2
            go_wp2_with (at_builtin; refine wpList_append_known rfl _ _ _ rfl _ _ _ _ rfl rfl HR.out ?_; simp only [Act.put, List.setIfInBounds_toArray, List.set_cons_zero, List.set_cons_succ])
            go_roundw
            case rel => exact ⟨q + 1, by have := HLT.out; omega, HW'.out⟩
            case measure =>
              have h1 := HLT.out
              have h2 := HLN.out
              rw [HV'.out]
              simp [lenV, zeros]
              omega
          · obtain rfl : q = need := by have := HQ.out; omega
            have hlt2 : ¬ ((want ++ zeros q).length : Int) < (off : Int) + (xs.length : Int) := by rw [hln]; have := HNEED.out; omega
            have hlt3 : (off : Int) < ((want ++ zeros q).length : Int) := by rw [hln]; have := HNEED.out; have := HX0.out; omega
            obtain ⟨g, rfl⟩ : ∃ g, ao2 = some ⟨g, 0, none⟩ := by
              rcases hv3 with ⟨_, h, _⟩ | h
              · rw [hln] at h; have := HNEED.out; have := HX0.out; omega
              · exact h
            obtain ⟨W', hcp, hW', -⟩ := wsw_copy rfl WQ.out off xs.length dc xs (some a) (HX.out.only (Only.of_new (fun _ => False) WQ.out.below) (fun _ _ _ h => h)) HX0.out (by rw [hln]; have := HNEED.out; omega)
            have HCP := Hid.mk hcp
            have HW' : Hid (WsW w W' t (wsT 900 B' z' p') (.slice (some ⟨g, 0, none⟩) (want ++ zeros q).length c2) (wantW want off xs) (fun _ => False)) := Hid.mk (by unfold wantW; rw [← HNEED.out]; exact hW')
            have HSL : Hid (off < (want ++ zeros q).length ∧ (want ++ zeros q).length ≤ c2 ∧ c2 ≤ 9223372036854775807) := Hid.mk ⟨by omega, hv1, hv2⟩
            generalize hn2 : (want ++ zeros q).length = n2 at *
            clear hcp hW' hlt hln hv1 hv2 hv3 hn2
            go_wp2_with (first
              | (go_at_call 27; refine (lmin_lt _ _ _ hlt3).mono ?_; rintro e W9 ⟨rfl, hw⟩; subst hw)
              | (with_reducible refine wpList_it ?_; refine wpList_knownR (by kernel_rfl) (.slice (some ⟨g, off, none⟩) (n2 - off) (c2 - off)) _ (exec_slW (s := .tmp 107) (y := .tmp 114) g n2 c2 off HSL.out rfl (by kernel_rfl) (by kernel_rfl)) ?_; simp only [Act.put, List.setIfInBounds_toArray, List.set_cons_zero, List.set_cons_succ])
              | (rw [HCP.out]; simp only [Result.andThen_ok]))
            go_roundw
            case rel => exact ⟨k + 1, wantW want off xs, B', z', p', by have := HOF.out; omega, by go_num, HW'.out, HP2.out, by rw [wantW_len]; have := LK.out; have := HD.out; have := HOF.out; omega, fun h => by have := HX0.out; omega⟩
            case measure => have := HOF.out; simp [intOf]; omega
    · obtain rfl : k = m := by omega
      have hi2 : ¬ (k : Int) < (k : Int) := by omega
      have hz := PK.out.size
      obtain ⟨L, hL⟩ : ∃ L, L = min N (want.length - FR) := ⟨_, rfl⟩
      have HL := Hid.mk hL
      clear hlt hk hL
      go_upto_region 20 with (first
        | (go_at_call 28; refine (lR_any _ _ _ _).mono ?_; rintro e W5 ⟨rfl, hB5⟩; have O3 := Hid.mk (WK.out.then hB5); unfold callV; clear hB5 WK)
        | (go_at_call 13; refine (ws_do3 O3.out PK.out (by decide) (by decide) (by have := HD.out; omega) (by have := HD.out; omega) (by have := LK.out; omega) L HL.out).mono ?_; rintro e W6 ⟨g, rfl, hg, hO, -, -⟩; have O4 := Hid.mk (hO.box (.cells #[.int .i64 0, .slice (some ⟨g, 0, none⟩) L L, .int .i64 0, .int .i64 0, .int .i64 0, .slice none 0 0, .int .i64 0] 37)); have q6 := Hid.mk (blk_new W6 (.cells #[.int .i64 0, .slice (some ⟨g, 0, none⟩) L L, .int .i64 0, .int .i64 0, .int .i64 0, .slice none 0 0, .int .i64 0] 37)); have G6 : Hid ((W6.alloc (.cells #[.int .i64 0, .slice (some ⟨g, 0, none⟩) L L, .int .i64 0, .int .i64 0, .int .i64 0, .slice none 0 0, .int .i64 0] 37)).heap[g]? = _) := Hid.mk ((Below.heap_alloc _ _ _ (lt_of_block hg)).trans hg); unfold readV; clear hO hg O3)
        | (go_at_call 25; refine (lC_any _ _ _).mono ?_; rintro e W7 ⟨rfl, hB7⟩; have O5 := Hid.mk (O4.out.then hB7); have q7 := Hid.mk ((hB7.block _ (lt_of_block q6.out)).trans q6.out); have G7 := Hid.mk ((hB7.block _ (lt_of_block G6.out)).trans G6.out); unfold callV; clear hB7 O4 q6 G6)
        | (go_at_call 13; refine (ws_do4 O5.out).mono ?_; rintro e W8 ⟨rfl, hO, hkp, -⟩; have q8 := Hid.mk ((hkp _ (.inr rfl)).trans q7.out); have G8 := Hid.mk ((hkp _ (.inl (.inr rfl))).trans G7.out); have O6 := Hid.mk hO; clear hO hkp O5 q7 G7))
      subst hz
      obtain ⟨Y8, hY8⟩ : ∃ Y8, Y8 = W8.alloc (.cells #[.int .i64 0, .slice none 0 0, .int .i64 1, .int .i64 want.length, .int .i64 1, .slice none 0 0, .int .i64 0] 37) := ⟨_, rfl⟩
      have P8 := O6.out.box (.cells #[.int .i64 0, .slice none 0 0, .int .i64 1, .int .i64 want.length, .int .i64 1, .slice none 0 0, .int .i64 0] 37)
      have hB8 : Below W8.heap.size W8 Y8 := by rw [hY8]; exact (Below.refl _ _).alloc (Nat.le_refl _) _
      have e8 := (hB8.block _ (lt_of_block q8.out)).trans q8.out
      have r8 : Y8.heap[W8.heap.size]? = some (.cells #[.int .i64 0, .slice none 0 0, .int .i64 1, .int .i64 want.length, .int .i64 1, .slice none 0 0, .int .i64 0] 37 (0, 0)) := by rw [hY8]; exact blk_new W8 (.cells #[.int .i64 0, .slice none 0 0, .int .i64 1, .int .i64 want.length, .int .i64 1, .slice none 0 0, .int .i64 0] 37)
      have HG8 := Hid.mk ((hB8.block _ (lt_of_block G8.out)).trans G8.out)
      rw [← hY8] at P8 ⊢
      have PB := Hid.mk P8.below
      obtain ⟨ao, c, rfl, hv1, hv2, hv3, hv4⟩ := P8.val
      have HV : Hid ((want.length ≤ c ∧ c ≤ 9223372036854775807) ∧ ((ao = none ∧ want.length = 0 ∧ c = 0) ∨ ∃ g, ao = some ⟨g, 0, none⟩)) := Hid.mk ⟨⟨hv1, hv2⟩, hv3⟩
      have HBW := Hid.mk hv4
      generalize W6.heap.size = b6 at *
      generalize W8.heap.size = b8 at *
      have d60 := blk_cell e8 0
      have d61 := blk_cell e8 1
      have d82 := blk_cell r8 2
      have d83 := blk_cell r8 3
      have d84 := blk_cell r8 4
      simp at d60 d61 d82 d83 d84
      clear hY8 P8 hB8 e8 r8 O6 q8 G8 hv1 hv2 hv3 hv4 PK
      obtain ⟨E, hE⟩ : ∃ E, E = FR + N := ⟨_, rfl⟩
      have hwE : IntKind.i64.wrap ((FR : Int) + (N : Int)) = (E : Int) := by rw [IntKind.wrap_i64]; have := HD.out; omega
      have HE := Hid.mk hE
      clear hE
      by_cases e1 : (want.length : Int) < (E : Int)
      · by_cases e2 : (want.length : Int) < (FR : Int)
        · obtain rfl : L = 0 := by have := HL.out; omega
          go_wp2_with fail
          go_ret
          exact ⟨rfl, PB.out⟩
        · have HE2 : Hid (FR ≤ want.length) := Hid.mk (by omega)
          have HE := Hid.mk (And.intro HE.out (And.intro HE2.out e1))
          obtain ⟨bo, c2, hpr, hpb⟩ := part_run ao want.length c FR want.length (by have := HV.out.1; have := HE.out; omega) HV.out.2
          rw [show want.length - FR = L from by have := HL.out; have := HE.out; omega] at hpr hpb
          have HPR := Hid.mk hpr
          obtain ⟨ST, hST⟩ : ∃ ST, ST = strOfNums ((want.drop FR).take L) := ⟨_, rfl⟩
          have HC1 : Hid ((convert 31 9 (.slice (some ⟨g, 0, none⟩) L L)).run Tryz.prog Y8.drew = .ok (.string ST) Y8.drew) := Hid.mk (by
            rw [hST]
            exact conv_bytes Y8.drew _ L L _ (RAt.full (show Y8.drew.heap[g]? = _ from HG8.out) (by have := HL.out; simp only [List.length_take, List.length_drop]; omega)))
          have HC2 : Hid ((convert 31 9 (.slice bo L c2)).run Tryz.prog Y8.drew = .ok (.string ST) Y8.drew) := Hid.mk (by
            rw [hST]
            exact conv_bytes Y8.drew _ L c2 _ (hpb Y8.drew want (show BAt Y8.drew ao want.length want from HBW.out)))
          clear hpr hpb hST
          go_upto_region 25 with fail
          refine wp_region_held_drew (S := fun W => W.cell? ⟨b6, 0, none⟩ = some (.int .i64 0) ∧ W.cell? ⟨b6, 1, none⟩ = some (.slice (some ⟨g, 0, none⟩) L L) ∧ W.cell? ⟨b8, 3, none⟩ = some (.int .i64 (want.length : Int)) ∧ W.cell? ⟨b8, 2, none⟩ = some (.int .i64 1) ∧ W.cell? ⟨b8, 4, none⟩ = some (.int .i64 1) ∧ (convert 31 9 (.slice (some ⟨g, 0, none⟩) L L)).run Tryz.prog W = .ok (.string ST) W ∧ (convert 31 9 (.slice bo L c2)).run Tryz.prog W = .ok (.string ST) W) (by kernel_rfl) ⟨d60, d61, d83, d82, d84, HC1.out, HC2.out⟩ (fun hH => ?_)
          change wpAnyH Tryz.prog Region.Mode.any _ _ _ 33 _ _ _
          refine takeH 0 149 (.pointer (some ⟨b6, 0, none⟩)) rfl (by kernel_rfl) (by kernel_rfl) (by kernel_rfl) (by kernel_rfl) (fun _ _ _ h => h) (by kernel_rfl) (fun w hw => by (try dsimp only at hw); go_simp) hH ?_
          simp only [List.setIfInBounds_toArray, List.set_cons_zero, List.set_cons_succ]
          refine takeH 1 150 (.int .i64 0) rfl (by kernel_rfl) (by kernel_rfl) (by kernel_rfl) (by kernel_rfl) (fun _ _ _ h => h) (by kernel_rfl) (fun w hw => by (try dsimp only at hw); obtain ⟨h1, h2, h3, h4, h5, h6, h7⟩ := hw; go_simp) hH ?_
          simp only [List.setIfInBounds_toArray, List.set_cons_zero, List.set_cons_succ]
          refine stepH_call 2 151 rfl (by kernel_rfl) (by kernel_rfl) (by kernel_rfl) 23 #[.tmp 150] #[34] (by kernel_rfl) (enters_of Tryz.func23 (by kernel_rfl) rfl) #[.int .i64 0] (by kernel_rfl) (lnum_any _ _) ?_
          rintro e' w9 ⟨rfl, hw9⟩
          rw [hw9]
          refine ⟨_, rfl, hH, ?_⟩
          simp only [List.setIfInBounds_toArray, List.set_cons_zero, List.set_cons_succ]
          refine takeH 3 152 (.bool true) rfl (by kernel_rfl) (by kernel_rfl) (by kernel_rfl) (by kernel_rfl) (fun _ _ _ h => h) (by kernel_rfl) (fun w hw => by (try dsimp only at hw); go_simp) hH ?_
          simp only [List.setIfInBounds_toArray, List.set_cons_zero, List.set_cons_succ]
          refine takeH 4 153 (.bool true) rfl (by kernel_rfl) (by kernel_rfl) (by kernel_rfl) (by kernel_rfl) (fun _ _ _ h => h) (by kernel_rfl) (fun w hw => by kernel_rfl) hH ?_
          simp only [List.setIfInBounds_toArray, List.set_cons_zero, List.set_cons_succ]
          refine takeH 5 154 (.pointer (some ⟨b6, 1, none⟩)) rfl (by kernel_rfl) (by kernel_rfl) (by kernel_rfl) (by kernel_rfl) (fun _ _ _ h => h) (by kernel_rfl) (fun w hw => by (try dsimp only at hw); go_simp) hH ?_
          simp only [List.setIfInBounds_toArray, List.set_cons_zero, List.set_cons_succ]
          refine takeH 6 155 (.slice (some ⟨g, 0, none⟩) L L) rfl (by kernel_rfl) (by kernel_rfl) (by kernel_rfl) (by kernel_rfl) (fun _ _ _ h => h) (by kernel_rfl) (fun w hw => by (try dsimp only at hw); obtain ⟨h1, h2, h3, h4, h5, h6, h7⟩ := hw; go_simp) hH ?_
          simp only [List.setIfInBounds_toArray, List.set_cons_zero, List.set_cons_succ]
          refine takeH 7 156 (.string ST) rfl (by kernel_rfl) (by kernel_rfl) (by kernel_rfl) (by kernel_rfl) (fun _ _ _ h => h) (by kernel_rfl) (fun w hw => by obtain ⟨h1, h2, h3, h4, h5, h6, h7⟩ := hw; exact exec_convert (x := .tmp 155) (by kernel_rfl) (by kernel_rfl) h6) hH ?_
          simp only [List.setIfInBounds_toArray, List.set_cons_zero, List.set_cons_succ]
          refine takeH 8 157 (.slice ao want.length c) rfl (by kernel_rfl) (by kernel_rfl) (by kernel_rfl) (by kernel_rfl) (fun _ _ _ h => h) (by kernel_rfl) (fun w hw => by kernel_rfl) hH ?_
          simp only [List.setIfInBounds_toArray, List.set_cons_zero, List.set_cons_succ]
          refine takeH 9 158 (.int .i64 (FR : Int)) rfl (by kernel_rfl) (by kernel_rfl) (by kernel_rfl) (by kernel_rfl) (fun _ _ _ h => h) (by kernel_rfl) (fun w hw => by kernel_rfl) hH ?_
          simp only [List.setIfInBounds_toArray, List.set_cons_zero, List.set_cons_succ]
          refine takeH 10 159 (.int .i64 (want.length : Int)) rfl (by kernel_rfl) (by kernel_rfl) (by kernel_rfl) (by kernel_rfl) (fun _ _ _ h => h) (by kernel_rfl) (fun w hw => by kernel_rfl) hH ?_
          simp only [List.setIfInBounds_toArray, List.set_cons_zero, List.set_cons_succ]
          refine takeH 11 160 (.slice bo L c2) rfl (by kernel_rfl) (by kernel_rfl) (by kernel_rfl) (by kernel_rfl) (fun _ _ _ h => h) (by kernel_rfl) (fun w hw => by exact HPR.out _ _ (.tmp 157) (.tmp 158) (.tmp 159) w (by kernel_rfl) (by kernel_rfl) (by kernel_rfl) (by kernel_rfl)) hH ?_
          simp only [List.setIfInBounds_toArray, List.set_cons_zero, List.set_cons_succ]
          refine takeH 12 161 (.string ST) rfl (by kernel_rfl) (by kernel_rfl) (by kernel_rfl) (by kernel_rfl) (fun _ _ _ h => h) (by kernel_rfl) (fun w hw => by obtain ⟨h1, h2, h3, h4, h5, h6, h7⟩ := hw; exact exec_convert (x := .tmp 160) (by kernel_rfl) (by kernel_rfl) h7) hH ?_
          simp only [List.setIfInBounds_toArray, List.set_cons_zero, List.set_cons_succ]
          refine takeH 13 162 (.bool true) rfl (by kernel_rfl) (by kernel_rfl) (by kernel_rfl) (by kernel_rfl) (fun _ _ _ h => h) (by kernel_rfl) (fun w hw => by (try dsimp only at hw); go_simp) hH ?_
          simp only [List.setIfInBounds_toArray, List.set_cons_zero, List.set_cons_succ]
          refine takeH 14 163 (.bool true) rfl (by kernel_rfl) (by kernel_rfl) (by kernel_rfl) (by kernel_rfl) (fun _ _ _ h => h) (by kernel_rfl) (fun w hw => by (try dsimp only at hw); go_simp) hH ?_
          simp only [List.setIfInBounds_toArray, List.set_cons_zero, List.set_cons_succ]
          refine takeH 15 164 (.bool true) rfl (by kernel_rfl) (by kernel_rfl) (by kernel_rfl) (by kernel_rfl) (fun _ _ _ h => h) (by kernel_rfl) (fun w hw => by kernel_rfl) hH ?_
          simp only [List.setIfInBounds_toArray, List.set_cons_zero, List.set_cons_succ]
          refine takeH 16 165 (.pointer (some ⟨b8, 3, none⟩)) rfl (by kernel_rfl) (by kernel_rfl) (by kernel_rfl) (by kernel_rfl) (fun _ _ _ h => h) (by kernel_rfl) (fun w hw => by (try dsimp only at hw); go_simp) hH ?_
          simp only [List.setIfInBounds_toArray, List.set_cons_zero, List.set_cons_succ]
          refine takeH 17 166 (.int .i64 (want.length : Int)) rfl (by kernel_rfl) (by kernel_rfl) (by kernel_rfl) (by kernel_rfl) (fun _ _ _ h => h) (by kernel_rfl) (fun w hw => by (try dsimp only at hw); obtain ⟨h1, h2, h3, h4, h5, h6, h7⟩ := hw; go_simp) hH ?_
          simp only [List.setIfInBounds_toArray, List.set_cons_zero, List.set_cons_succ]
          refine takeH 18 167 (.slice ao want.length c) rfl (by kernel_rfl) (by kernel_rfl) (by kernel_rfl) (by kernel_rfl) (fun _ _ _ h => h) (by kernel_rfl) (fun w hw => by kernel_rfl) hH ?_
          simp only [List.setIfInBounds_toArray, List.set_cons_zero, List.set_cons_succ]
          refine takeH 19 168 (.int .i64 (want.length : Int)) rfl (by kernel_rfl) (by kernel_rfl) (by kernel_rfl) (by kernel_rfl) (fun _ _ _ h => h) (by kernel_rfl) (fun w hw => by (try dsimp only at hw); go_simp) hH ?_
          simp only [List.setIfInBounds_toArray, List.set_cons_zero, List.set_cons_succ]
          refine takeH 20 169 (.bool true) rfl (by kernel_rfl) (by kernel_rfl) (by kernel_rfl) (by kernel_rfl) (fun _ _ _ h => h) (by kernel_rfl) (fun w hw => by (try dsimp only at hw); go_simp) hH ?_
          simp only [List.setIfInBounds_toArray, List.set_cons_zero, List.set_cons_succ]
          refine takeH 21 170 (.bool true) rfl (by kernel_rfl) (by kernel_rfl) (by kernel_rfl) (by kernel_rfl) (fun _ _ _ h => h) (by kernel_rfl) (fun w hw => by (try dsimp only at hw); go_simp) hH ?_
          simp only [List.setIfInBounds_toArray, List.set_cons_zero, List.set_cons_succ]
          refine takeH 22 171 (.bool true) rfl (by kernel_rfl) (by kernel_rfl) (by kernel_rfl) (by kernel_rfl) (fun _ _ _ h => h) (by kernel_rfl) (fun w hw => by kernel_rfl) hH ?_
          simp only [List.setIfInBounds_toArray, List.set_cons_zero, List.set_cons_succ]
          refine takeH 23 172 (.pointer (some ⟨b8, 2, none⟩)) rfl (by kernel_rfl) (by kernel_rfl) (by kernel_rfl) (by kernel_rfl) (fun _ _ _ h => h) (by kernel_rfl) (fun w hw => by (try dsimp only at hw); go_simp) hH ?_
          simp only [List.setIfInBounds_toArray, List.set_cons_zero, List.set_cons_succ]
          refine takeH 24 173 (.int .i64 1) rfl (by kernel_rfl) (by kernel_rfl) (by kernel_rfl) (by kernel_rfl) (fun _ _ _ h => h) (by kernel_rfl) (fun w hw => by (try dsimp only at hw); obtain ⟨h1, h2, h3, h4, h5, h6, h7⟩ := hw; go_simp) hH ?_
          simp only [List.setIfInBounds_toArray, List.set_cons_zero, List.set_cons_succ]
          refine takeH 25 174 (.bool true) rfl (by kernel_rfl) (by kernel_rfl) (by kernel_rfl) (by kernel_rfl) (fun _ _ _ h => h) (by kernel_rfl) (fun w hw => by (try dsimp only at hw); go_simp) hH ?_
          simp only [List.setIfInBounds_toArray, List.set_cons_zero, List.set_cons_succ]
          refine takeH 26 175 (.bool true) rfl (by kernel_rfl) (by kernel_rfl) (by kernel_rfl) (by kernel_rfl) (fun _ _ _ h => h) (by kernel_rfl) (fun w hw => by (try dsimp only at hw); go_simp) hH ?_
          simp only [List.setIfInBounds_toArray, List.set_cons_zero, List.set_cons_succ]
          refine takeH 27 176 (.bool true) rfl (by kernel_rfl) (by kernel_rfl) (by kernel_rfl) (by kernel_rfl) (fun _ _ _ h => h) (by kernel_rfl) (fun w hw => by kernel_rfl) hH ?_
          simp only [List.setIfInBounds_toArray, List.set_cons_zero, List.set_cons_succ]
          refine takeH 28 177 (.pointer (some ⟨b8, 4, none⟩)) rfl (by kernel_rfl) (by kernel_rfl) (by kernel_rfl) (by kernel_rfl) (fun _ _ _ h => h) (by kernel_rfl) (fun w hw => by (try dsimp only at hw); go_simp) hH ?_
          simp only [List.setIfInBounds_toArray, List.set_cons_zero, List.set_cons_succ]
          refine takeH 29 178 (.int .i64 1) rfl (by kernel_rfl) (by kernel_rfl) (by kernel_rfl) (by kernel_rfl) (fun _ _ _ h => h) (by kernel_rfl) (fun w hw => by (try dsimp only at hw); obtain ⟨h1, h2, h3, h4, h5, h6, h7⟩ := hw; go_simp) hH ?_
          simp only [List.setIfInBounds_toArray, List.set_cons_zero, List.set_cons_succ]
          refine takeH 30 179 (.bool true) rfl (by kernel_rfl) (by kernel_rfl) (by kernel_rfl) (by kernel_rfl) (fun _ _ _ h => h) (by kernel_rfl) (fun w hw => by (try dsimp only at hw); go_simp) hH ?_
          simp only [List.setIfInBounds_toArray, List.set_cons_zero, List.set_cons_succ]
          refine takeH 31 180 (.bool true) rfl (by kernel_rfl) (by kernel_rfl) (by kernel_rfl) (by kernel_rfl) (fun _ _ _ h => h) (by kernel_rfl) (fun w hw => by (try dsimp only at hw); go_simp) hH ?_
          simp only [List.setIfInBounds_toArray, List.set_cons_zero, List.set_cons_succ]
          refine takeH 32 8 (.bool true) rfl (by kernel_rfl) (by kernel_rfl) (by kernel_rfl) (by kernel_rfl) (fun _ _ _ h => h) (by kernel_rfl) (fun w hw => by kernel_rfl) hH ?_
          simp only [List.setIfInBounds_toArray, List.set_cons_zero, List.set_cons_succ]
          refine wpAnyH_done (by kernel_rfl) ?_ _
          go_wp2_with fail
          go_ret
          exact ⟨rfl, PB.out.drew⟩
      · have e2 : ¬ (E : Int) < (FR : Int) := by have := HE.out; omega
        have HE := Hid.mk (And.intro HE.out e1)
        obtain ⟨bo, c2, hpr, hpb⟩ := part_run ao want.length c FR E (by have := HV.out.1; have := HE.out; omega) HV.out.2
        rw [show E - FR = L from by have := HL.out; have := HE.out; omega] at hpr hpb
        have HPR := Hid.mk hpr
        obtain ⟨ST, hST⟩ : ∃ ST, ST = strOfNums ((want.drop FR).take L) := ⟨_, rfl⟩
        have HC1 : Hid ((convert 31 9 (.slice (some ⟨g, 0, none⟩) L L)).run Tryz.prog Y8.drew = .ok (.string ST) Y8.drew) := Hid.mk (by
          rw [hST]
          exact conv_bytes Y8.drew _ L L _ (RAt.full (show Y8.drew.heap[g]? = _ from HG8.out) (by have := HL.out; simp only [List.length_take, List.length_drop]; omega)))
        have HC2 : Hid ((convert 31 9 (.slice bo L c2)).run Tryz.prog Y8.drew = .ok (.string ST) Y8.drew) := Hid.mk (by
          rw [hST]
          exact conv_bytes Y8.drew _ L c2 _ (hpb Y8.drew want (show BAt Y8.drew ao want.length want from HBW.out)))
        clear hpr hpb hST
        go_upto_region 25 with fail
        refine wp_region_held_drew (S := fun W => W.cell? ⟨b6, 0, none⟩ = some (.int .i64 0) ∧ W.cell? ⟨b6, 1, none⟩ = some (.slice (some ⟨g, 0, none⟩) L L) ∧ W.cell? ⟨b8, 3, none⟩ = some (.int .i64 (want.length : Int)) ∧ W.cell? ⟨b8, 2, none⟩ = some (.int .i64 1) ∧ W.cell? ⟨b8, 4, none⟩ = some (.int .i64 1) ∧ (convert 31 9 (.slice (some ⟨g, 0, none⟩) L L)).run Tryz.prog W = .ok (.string ST) W ∧ (convert 31 9 (.slice bo L c2)).run Tryz.prog W = .ok (.string ST) W) (by kernel_rfl) ⟨d60, d61, d83, d82, d84, HC1.out, HC2.out⟩ (fun hH => ?_)
        change wpAnyH Tryz.prog Region.Mode.any _ _ _ 33 _ _ _
        refine takeH 0 149 (.pointer (some ⟨b6, 0, none⟩)) rfl (by kernel_rfl) (by kernel_rfl) (by kernel_rfl) (by kernel_rfl) (fun _ _ _ h => h) (by kernel_rfl) (fun w hw => by (try dsimp only at hw); go_simp) hH ?_
        simp only [List.setIfInBounds_toArray, List.set_cons_zero, List.set_cons_succ]
        refine takeH 1 150 (.int .i64 0) rfl (by kernel_rfl) (by kernel_rfl) (by kernel_rfl) (by kernel_rfl) (fun _ _ _ h => h) (by kernel_rfl) (fun w hw => by (try dsimp only at hw); obtain ⟨h1, h2, h3, h4, h5, h6, h7⟩ := hw; go_simp) hH ?_
        simp only [List.setIfInBounds_toArray, List.set_cons_zero, List.set_cons_succ]
        refine stepH_call 2 151 rfl (by kernel_rfl) (by kernel_rfl) (by kernel_rfl) 23 #[.tmp 150] #[34] (by kernel_rfl) (enters_of Tryz.func23 (by kernel_rfl) rfl) #[.int .i64 0] (by kernel_rfl) (lnum_any _ _) ?_
        rintro e' w9 ⟨rfl, hw9⟩
        rw [hw9]
        refine ⟨_, rfl, hH, ?_⟩
        simp only [List.setIfInBounds_toArray, List.set_cons_zero, List.set_cons_succ]
        refine takeH 3 152 (.bool true) rfl (by kernel_rfl) (by kernel_rfl) (by kernel_rfl) (by kernel_rfl) (fun _ _ _ h => h) (by kernel_rfl) (fun w hw => by (try dsimp only at hw); go_simp) hH ?_
        simp only [List.setIfInBounds_toArray, List.set_cons_zero, List.set_cons_succ]
        refine takeH 4 153 (.bool true) rfl (by kernel_rfl) (by kernel_rfl) (by kernel_rfl) (by kernel_rfl) (fun _ _ _ h => h) (by kernel_rfl) (fun w hw => by kernel_rfl) hH ?_
        simp only [List.setIfInBounds_toArray, List.set_cons_zero, List.set_cons_succ]
        refine takeH 5 154 (.pointer (some ⟨b6, 1, none⟩)) rfl (by kernel_rfl) (by kernel_rfl) (by kernel_rfl) (by kernel_rfl) (fun _ _ _ h => h) (by kernel_rfl) (fun w hw => by (try dsimp only at hw); go_simp) hH ?_
        simp only [List.setIfInBounds_toArray, List.set_cons_zero, List.set_cons_succ]
        refine takeH 6 155 (.slice (some ⟨g, 0, none⟩) L L) rfl (by kernel_rfl) (by kernel_rfl) (by kernel_rfl) (by kernel_rfl) (fun _ _ _ h => h) (by kernel_rfl) (fun w hw => by (try dsimp only at hw); obtain ⟨h1, h2, h3, h4, h5, h6, h7⟩ := hw; go_simp) hH ?_
        simp only [List.setIfInBounds_toArray, List.set_cons_zero, List.set_cons_succ]
        refine takeH 7 156 (.string ST) rfl (by kernel_rfl) (by kernel_rfl) (by kernel_rfl) (by kernel_rfl) (fun _ _ _ h => h) (by kernel_rfl) (fun w hw => by obtain ⟨h1, h2, h3, h4, h5, h6, h7⟩ := hw; exact exec_convert (x := .tmp 155) (by kernel_rfl) (by kernel_rfl) h6) hH ?_
        simp only [List.setIfInBounds_toArray, List.set_cons_zero, List.set_cons_succ]
        refine takeH 8 157 (.slice ao want.length c) rfl (by kernel_rfl) (by kernel_rfl) (by kernel_rfl) (by kernel_rfl) (fun _ _ _ h => h) (by kernel_rfl) (fun w hw => by kernel_rfl) hH ?_
        simp only [List.setIfInBounds_toArray, List.set_cons_zero, List.set_cons_succ]
        refine takeH 9 158 (.int .i64 (FR : Int)) rfl (by kernel_rfl) (by kernel_rfl) (by kernel_rfl) (by kernel_rfl) (fun _ _ _ h => h) (by kernel_rfl) (fun w hw => by kernel_rfl) hH ?_
        simp only [List.setIfInBounds_toArray, List.set_cons_zero, List.set_cons_succ]
        refine takeH 10 159 (.int .i64 (E : Int)) rfl (by kernel_rfl) (by kernel_rfl) (by kernel_rfl) (by kernel_rfl) (fun _ _ _ h => h) (by kernel_rfl) (fun w hw => by kernel_rfl) hH ?_
        simp only [List.setIfInBounds_toArray, List.set_cons_zero, List.set_cons_succ]
        refine takeH 11 160 (.slice bo L c2) rfl (by kernel_rfl) (by kernel_rfl) (by kernel_rfl) (by kernel_rfl) (fun _ _ _ h => h) (by kernel_rfl) (fun w hw => by exact HPR.out _ _ (.tmp 157) (.tmp 158) (.tmp 159) w (by kernel_rfl) (by kernel_rfl) (by kernel_rfl) (by kernel_rfl)) hH ?_
        simp only [List.setIfInBounds_toArray, List.set_cons_zero, List.set_cons_succ]
        refine takeH 12 161 (.string ST) rfl (by kernel_rfl) (by kernel_rfl) (by kernel_rfl) (by kernel_rfl) (fun _ _ _ h => h) (by kernel_rfl) (fun w hw => by obtain ⟨h1, h2, h3, h4, h5, h6, h7⟩ := hw; exact exec_convert (x := .tmp 160) (by kernel_rfl) (by kernel_rfl) h7) hH ?_
        simp only [List.setIfInBounds_toArray, List.set_cons_zero, List.set_cons_succ]
        refine takeH 13 162 (.bool true) rfl (by kernel_rfl) (by kernel_rfl) (by kernel_rfl) (by kernel_rfl) (fun _ _ _ h => h) (by kernel_rfl) (fun w hw => by (try dsimp only at hw); go_simp) hH ?_
        simp only [List.setIfInBounds_toArray, List.set_cons_zero, List.set_cons_succ]
        refine takeH 14 163 (.bool true) rfl (by kernel_rfl) (by kernel_rfl) (by kernel_rfl) (by kernel_rfl) (fun _ _ _ h => h) (by kernel_rfl) (fun w hw => by (try dsimp only at hw); go_simp) hH ?_
        simp only [List.setIfInBounds_toArray, List.set_cons_zero, List.set_cons_succ]
        refine takeH 15 164 (.bool true) rfl (by kernel_rfl) (by kernel_rfl) (by kernel_rfl) (by kernel_rfl) (fun _ _ _ h => h) (by kernel_rfl) (fun w hw => by kernel_rfl) hH ?_
        simp only [List.setIfInBounds_toArray, List.set_cons_zero, List.set_cons_succ]
        refine takeH 16 165 (.pointer (some ⟨b8, 3, none⟩)) rfl (by kernel_rfl) (by kernel_rfl) (by kernel_rfl) (by kernel_rfl) (fun _ _ _ h => h) (by kernel_rfl) (fun w hw => by (try dsimp only at hw); go_simp) hH ?_
        simp only [List.setIfInBounds_toArray, List.set_cons_zero, List.set_cons_succ]
        refine takeH 17 166 (.int .i64 (want.length : Int)) rfl (by kernel_rfl) (by kernel_rfl) (by kernel_rfl) (by kernel_rfl) (fun _ _ _ h => h) (by kernel_rfl) (fun w hw => by (try dsimp only at hw); obtain ⟨h1, h2, h3, h4, h5, h6, h7⟩ := hw; go_simp) hH ?_
        simp only [List.setIfInBounds_toArray, List.set_cons_zero, List.set_cons_succ]
        refine takeH 18 167 (.slice ao want.length c) rfl (by kernel_rfl) (by kernel_rfl) (by kernel_rfl) (by kernel_rfl) (fun _ _ _ h => h) (by kernel_rfl) (fun w hw => by kernel_rfl) hH ?_
        simp only [List.setIfInBounds_toArray, List.set_cons_zero, List.set_cons_succ]
        refine takeH 19 168 (.int .i64 (want.length : Int)) rfl (by kernel_rfl) (by kernel_rfl) (by kernel_rfl) (by kernel_rfl) (fun _ _ _ h => h) (by kernel_rfl) (fun w hw => by (try dsimp only at hw); go_simp) hH ?_
        simp only [List.setIfInBounds_toArray, List.set_cons_zero, List.set_cons_succ]
        refine takeH 20 169 (.bool true) rfl (by kernel_rfl) (by kernel_rfl) (by kernel_rfl) (by kernel_rfl) (fun _ _ _ h => h) (by kernel_rfl) (fun w hw => by (try dsimp only at hw); go_simp) hH ?_
        simp only [List.setIfInBounds_toArray, List.set_cons_zero, List.set_cons_succ]
        refine takeH 21 170 (.bool true) rfl (by kernel_rfl) (by kernel_rfl) (by kernel_rfl) (by kernel_rfl) (fun _ _ _ h => h) (by kernel_rfl) (fun w hw => by (try dsimp only at hw); go_simp) hH ?_
        simp only [List.setIfInBounds_toArray, List.set_cons_zero, List.set_cons_succ]
        refine takeH 22 171 (.bool true) rfl (by kernel_rfl) (by kernel_rfl) (by kernel_rfl) (by kernel_rfl) (fun _ _ _ h => h) (by kernel_rfl) (fun w hw => by kernel_rfl) hH ?_
        simp only [List.setIfInBounds_toArray, List.set_cons_zero, List.set_cons_succ]
        refine takeH 23 172 (.pointer (some ⟨b8, 2, none⟩)) rfl (by kernel_rfl) (by kernel_rfl) (by kernel_rfl) (by kernel_rfl) (fun _ _ _ h => h) (by kernel_rfl) (fun w hw => by (try dsimp only at hw); go_simp) hH ?_
        simp only [List.setIfInBounds_toArray, List.set_cons_zero, List.set_cons_succ]
        refine takeH 24 173 (.int .i64 1) rfl (by kernel_rfl) (by kernel_rfl) (by kernel_rfl) (by kernel_rfl) (fun _ _ _ h => h) (by kernel_rfl) (fun w hw => by (try dsimp only at hw); obtain ⟨h1, h2, h3, h4, h5, h6, h7⟩ := hw; go_simp) hH ?_
        simp only [List.setIfInBounds_toArray, List.set_cons_zero, List.set_cons_succ]
        refine takeH 25 174 (.bool true) rfl (by kernel_rfl) (by kernel_rfl) (by kernel_rfl) (by kernel_rfl) (fun _ _ _ h => h) (by kernel_rfl) (fun w hw => by (try dsimp only at hw); go_simp) hH ?_
        simp only [List.setIfInBounds_toArray, List.set_cons_zero, List.set_cons_succ]
        refine takeH 26 175 (.bool true) rfl (by kernel_rfl) (by kernel_rfl) (by kernel_rfl) (by kernel_rfl) (fun _ _ _ h => h) (by kernel_rfl) (fun w hw => by (try dsimp only at hw); go_simp) hH ?_
        simp only [List.setIfInBounds_toArray, List.set_cons_zero, List.set_cons_succ]
        refine takeH 27 176 (.bool true) rfl (by kernel_rfl) (by kernel_rfl) (by kernel_rfl) (by kernel_rfl) (fun _ _ _ h => h) (by kernel_rfl) (fun w hw => by kernel_rfl) hH ?_
        simp only [List.setIfInBounds_toArray, List.set_cons_zero, List.set_cons_succ]
        refine takeH 28 177 (.pointer (some ⟨b8, 4, none⟩)) rfl (by kernel_rfl) (by kernel_rfl) (by kernel_rfl) (by kernel_rfl) (fun _ _ _ h => h) (by kernel_rfl) (fun w hw => by (try dsimp only at hw); go_simp) hH ?_
        simp only [List.setIfInBounds_toArray, List.set_cons_zero, List.set_cons_succ]
        refine takeH 29 178 (.int .i64 1) rfl (by kernel_rfl) (by kernel_rfl) (by kernel_rfl) (by kernel_rfl) (fun _ _ _ h => h) (by kernel_rfl) (fun w hw => by (try dsimp only at hw); obtain ⟨h1, h2, h3, h4, h5, h6, h7⟩ := hw; go_simp) hH ?_
        simp only [List.setIfInBounds_toArray, List.set_cons_zero, List.set_cons_succ]
        refine takeH 30 179 (.bool true) rfl (by kernel_rfl) (by kernel_rfl) (by kernel_rfl) (by kernel_rfl) (fun _ _ _ h => h) (by kernel_rfl) (fun w hw => by (try dsimp only at hw); go_simp) hH ?_
        simp only [List.setIfInBounds_toArray, List.set_cons_zero, List.set_cons_succ]
        refine takeH 31 180 (.bool true) rfl (by kernel_rfl) (by kernel_rfl) (by kernel_rfl) (by kernel_rfl) (fun _ _ _ h => h) (by kernel_rfl) (fun w hw => by (try dsimp only at hw); go_simp) hH ?_
        simp only [List.setIfInBounds_toArray, List.set_cons_zero, List.set_cons_succ]
        refine takeH 32 8 (.bool true) rfl (by kernel_rfl) (by kernel_rfl) (by kernel_rfl) (by kernel_rfl) (fun _ _ _ h => h) (by kernel_rfl) (fun w hw => by kernel_rfl) hH ?_
        simp only [List.setIfInBounds_toArray, List.set_cons_zero, List.set_cons_succ]
        refine wpAnyH_done (by kernel_rfl) ?_ _
        go_wp2_with fail
        go_ret
        exact ⟨rfl, PB.out.drew⟩
end Go.Proofs.YtehaoeclnmelhaaGreat
