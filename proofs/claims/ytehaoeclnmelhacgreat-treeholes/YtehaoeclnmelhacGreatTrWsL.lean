/-
  A file that is written and cut: lists.
-/
import Derived.Test.YtehaoeclnmelhacGreatTrByte
import Derived.Test.YtehaoeclnmelhacGreatTrRmL
import Derived.Test.YtehaoeclnmelhacGreatTrHdL
namespace Go.Proofs.YtehaoeclnmelhacGreat
open Go Go.Proofs Go.RowKit Go.Shelf Go.Sort

theorem any_mem {l l' : List Int} (h : ∀ y, y ∈ l ↔ y ∈ l') (P : Int → Bool) : l.any P = l'.any P := by
  rw [Bool.eq_iff_iff]
  simp only [List.any_eq_true]
  exact ⟨fun ⟨x, hx, hp⟩ => ⟨x, (h x).1 hx, hp⟩, fun ⟨x, hx, hp⟩ => ⟨x, (h x).2 hx, hp⟩⟩
/-- How many indirect blocks numbers want hangs on which they are. -/
theorem mt_mem {l l' : List Int} (h : ∀ y, y ∈ l ↔ y ∈ l') : mtN l = mtN l' := by
  unfold mtN
  have e : useB l = useB l' := by
    funext k
    exact any_mem h _
  unfold useN
  rw [any_mem h, any_mem h, e]
theorem room_mem {l l' : List Int} (h : ∀ y, y ∈ l ↔ y ∈ l') (hl : l.length = l'.length) : roomL l = roomL l' := by
  unfold roomL
  rw [mt_mem h, hl]
theorem wr_keys (off cnt : Int) (xs : List Int) (p : List (Int × List Int)) (k : Nat) (y : Int) : y ∈ (wrP off cnt xs p k).map (·.1) ↔ y ∈ p.map (·.1) ∨ y ∈ (List.range k).map (pzB off) := by
  induction k with
  | zero => simp [wrP]
  | succ k ih =>
    rw [wrP, keys_put, ih, List.range_succ, List.map_append, List.mem_append]
    constructor
    · rintro (h | h | h)
      · exact .inr (.inr (by simp [h]))
      · exact .inl h
      · exact .inr (.inl h)
    · rintro (h | h | h)
      · exact .inr (.inl h)
      · exact .inr (.inr h)
      · simp at h; exact .inl h
theorem wr_klen (off cnt : Int) (xs : List Int) {p : List (Int × List Int)} (hp : (p.map (·.1)).Pairwise (· < ·)) (k : Nat) : (wrP off cnt xs p k).length = p.length + (missK off p k).length := by
  induction k with
  | zero => simp [wrP, missK]
  | succ k ih =>
    have hw := (wr_len off cnt xs p k hp).1
    have hk : pzB off k ∈ (wrP off cnt xs p k).map (·.1) ↔ pzB off k ∈ p.map (·.1) := by
      rw [wr_keys]
      refine ⟨fun h => h.elim id (fun h => ?_), .inl⟩
      obtain ⟨j, hj, e⟩ := List.mem_map.1 h
      rw [List.mem_range] at hj
      unfold pzB at e
      omega
    rw [wrP, miss_succ, List.length_append]
    by_cases hm : pzB off k ∈ p.map (·.1)
    · rw [put_old _ _ hw (hk.2 hm), ih, if_pos hm]
      simp
    · rw [put_new _ _ (fun h => hm (hk.1 h)), ih, if_neg hm]
      simp
      omega
/-- What a write adds to a file's room is what is asked ahead of it. -/
theorem wr_room (off cnt : Int) (xs : List Int) {p : List (Int × List Int)} (hp : (p.map (·.1)).Pairwise (· < ·)) : roomL ((wrP off cnt xs p (pzN off cnt)).map (·.1)) = roomL (p.map (·.1)) + fillN off cnt p := by
  have hmem : ∀ y, y ∈ (wrP off cnt xs p (pzN off cnt)).map (·.1) ↔ y ∈ p.map (·.1) ++ missK off p (pzN off cnt) := by
    intro y
    rw [wr_keys, List.mem_append]
    unfold missK
    rw [List.mem_filter]
    constructor
    · rintro (h | h)
      · exact .inl h
      · by_cases hy : y ∈ p.map (·.1)
        · exact .inl hy
        · exact .inr ⟨h, by simpa using hy⟩
    · rintro (h | h)
      · exact .inl h
      · exact .inr h.1
  have hlen : ((wrP off cnt xs p (pzN off cnt)).map (·.1)).length = (p.map (·.1) ++ missK off p (pzN off cnt)).length := by
    rw [List.length_map, wr_klen off cnt xs hp, List.length_append, List.length_map]
  rw [room_mem hmem hlen]
  unfold fillN
  split
  · next h => rw [h]; simp
  · omega
theorem wr_ok {off cnt : Int} {xs : List Int} (h0 : 0 ≤ off) {p : List (Int × List Int)} (hp : partsOk p) (k : Nat) (hk : off / 1024 + k ≤ 65800) : partsOk (wrP off cnt xs p k) := by
  induction k with
  | zero => exact hp
  | succ k ih =>
    rw [wrP]
    exact put_ok (ih (by omega)) (by unfold pzB; omega) (by unfold pzB; omega)
theorem sorted_len : ∀ (l : List Int) (a b : Int), l.Pairwise (· < ·) → (∀ x ∈ l, a ≤ x ∧ x < b) → a ≤ b → (l.length : Int) ≤ b - a
  | [], a, b, _, _, h => by simp; omega
  | x :: l, a, b, hp, h, hab => by
    obtain ⟨h1, h2⟩ := List.pairwise_cons.1 hp
    have hx := h x (by simp)
    have := sorted_len l (x + 1) b h2 (fun y hy => ⟨by have := h1 y hy; omega, (h y (by simp [hy])).2⟩) (by omega)
    simp only [List.length_cons]
    omega
/-- The root, with one file 'f'. -/
def wsS : List Slt := some (1, [102]) :: List.replicate 29 none
def wsT (D B z : Int) (p : List (Int × List Int)) : Tr := ⟨1, 1, D, 2, B, [.dir 2 1024 wsS, .file 1 z p]⟩
/-- A file holds 'want': its blocks are below K. -/
structure WsOk (K : Int) (want : List Int) (B z : Int) (p : List (Int × List Int)) : Prop where
  size : z = want.length
  ok : partsOk p
  full : fullP p
  keys : ∀ x ∈ p.map (·.1), 0 ≤ x ∧ x < K
  bytes : ∀ i : Nat, byteP p i = want.getD i 0
  room : B = 1 + roomL (p.map (·.1))
theorem ws_none (K : Int) : WsOk K [] 1 0 [] := { size := rfl, ok := ⟨List.Pairwise.nil, fun x h => (List.not_mem_nil h).elim⟩, full := (fun x d h => by simp [getP] at h), keys := (fun x h => by simp at h), bytes := (fun i => by rw [byteP_nil]; simp), room := (by unfold roomL; simp [mt_none]) }
theorem WsOk.rows {K : Int} {want : List Int} {B z : Int} {p : List (Int × List Int)} (h : WsOk K want B z p) : ∀ x ∈ p, x.2.length = 1024 := fun x hx => h.full x.1 x.2 (getP_mem h.ok.1 hx)
theorem WsOk.len {K : Int} {want : List Int} {B z : Int} {p : List (Int × List Int)} (h : WsOk K want B z p) (hK : 0 ≤ K) : (p.length : Int) ≤ K := by
  have := sorted_len (p.map (·.1)) 0 K h.ok.1 h.keys hK
  simp at this
  omega
theorem WsOk.low {K : Int} {want : List Int} {B z : Int} {p : List (Int × List Int)} (h : WsOk K want B z p) (hK : 0 ≤ K) (hK2 : K ≤ 264) : 1 ≤ B ∧ B ≤ K + 2 := by
  have h1 := h.len hK
  have h2 := mt_small (l := p.map (·.1)) (fun x hx => ⟨(h.keys x hx).1, by have := (h.keys x hx).2; omega⟩)
  rw [h.room]
  unfold roomL
  rw [h2]
  simp only [List.length_map]
  split <;> simp <;> omega
theorem WsOk.good {K : Int} {want : List Int} {B z D : Int} {p : List (Int × List Int)} (h : WsOk K want B z p) (hK : 0 ≤ K) (hK2 : K ≤ 65800) : ∀ x ∈ (wsT D B z p).nodes, x.Ok := by
  intro x hx
  simp only [wsT, List.mem_cons, List.mem_nil_iff, or_false] at hx
  rcases hx with rfl | rfl
  · exact ⟨by omega, by omega, by simp [wsS]⟩
  · exact ⟨h.ok, by have := h.len hK; omega⟩
/-- What is there behind a write. -/
def wantW (want : List Int) (off : Nat) (xs : List Int) : List Int := splice (want ++ zeros (off + xs.length - want.length)) off xs
theorem wantW_len (want : List Int) (off : Nat) (xs : List Int) : (wantW want off xs).length = max want.length (off + xs.length) := by
  unfold wantW
  rw [length_splice _ _ _ (by simp [zeros]; omega)]
  simp [zeros]
  omega
theorem wantW_get (want : List Int) (off : Nat) (xs : List Int) (i : Nat) : (wantW want off xs).getD i 0 = if off ≤ i ∧ i < off + xs.length then xs.getD (i - off) 0 else want.getD i 0 := by
  unfold wantW
  rw [splice_getD (by simp [zeros]; omega)]
  split
  · rfl
  · simp only [List.getD_eq_getElem?_getD, List.getElem?_append]
    split
    · rfl
    · next h =>
      rw [List.getElem?_eq_none (l := want) (by omega)]
      simp only [zeros, List.getElem?_replicate]
      split <;> rfl
theorem ws_write {K : Int} {want : List Int} {B z D : Int} {p : List (Int × List Int)} (h : WsOk K want B z p) {off : Nat} {xs : List Int} (h0 : 0 < xs.length) (h1 : (off : Int) + xs.length ≤ K * 1024) (hK : 0 ≤ K) (hK2 : K ≤ 264) :
    ∃ B' z' p', writeT (wsT D B z p) off xs 1 = wsT D B' z' p' ∧ WsOk K (wantW want off xs) B' z' p' ∧ B' = B + fillN off xs.length p := by
  have hn : ∀ k, k < pzN off xs.length → pzB off k < K := fun k hk => by
    unfold pzN at hk
    rw [if_neg (by omega)] at hk
    unfold pzB
    omega
  have hb : (off : Int) / 1024 + (pzN off xs.length : Int) ≤ 65800 := by
    unfold pzN
    rw [if_neg (by omega)]
    omega
  refine ⟨B + fillN off xs.length p, max z (off + xs.length), wrP off xs.length xs p (pzN off xs.length), ?_, ⟨?_, wr_ok (by omega) h.ok _ hb, wr_full (by omega) h.full (Nat.le_refl _), ?_, ?_, ?_⟩, rfl⟩
  · have h2 := h.low hK hK2
    have h3 := wr_room (off : Int) xs.length xs h.ok.1
    have h4 := room_bound ((wrP off xs.length xs p (pzN off xs.length)).map (·.1))
    have h5 := (wr_len off xs.length xs p (pzN off xs.length) h.ok.1).2
    have h6 := h.len hK
    have h7 := pz_lt (off := (off : Int)) (n := xs.length) (by omega)
    simp only [List.length_map] at h4
    have h8 := room_bound (p.map (·.1))
    simp only [List.length_map] at h8
    unfold writeT wsT
    simp only [nodeAt, List.getD, List.getElem?_cons_succ, List.getElem?_cons_zero, Option.getD_some, Nd.parts, List.modify_succ_cons, List.modify_zero_cons, Nd.wr]
    congr 1
    · unfold w64 wrap64; omega
    · unfold w64 wrap64
      omega
  · rw [h.size, wantW_len]
    omega
  · intro y hy
    rw [wr_keys] at hy
    rcases hy with hy | hy
    · exact h.keys y hy
    · obtain ⟨j, hj, rfl⟩ := List.mem_map.1 hy
      exact ⟨by unfold pzB; omega, hn j (List.mem_range.1 hj)⟩
  · intro i
    rw [wr_byte (by omega) h.full (Nat.le_refl _), pz_out (by omega) (by omega), wantW_get, h.bytes]
    by_cases hi : off ≤ i ∧ i < off + xs.length
    · rw [if_pos hi, if_pos (by omega)]
      congr 1
      omega
    · rw [if_neg hi, if_neg (by omega)]
  · rw [wr_room (off : Int) xs.length xs h.ok.1, h.room]
    omega
theorem ws_fit {K : Int} {want : List Int} {B z D : Int} {p : List (Int × List Int)} (h : WsOk K want B z p) {off : Nat} {xs : List Int} (h0 : 0 < xs.length) (h1 : (off : Int) + xs.length ≤ K * 1024) (hK : 0 ≤ K) (hK2 : K ≤ 264) (hD : blkI 1 1 D = D) (hI : inoI 1 1 D = 16) (hDK : K + 2 ≤ D) : fitsB 1 1 D 2 B 0 (fillN off xs.length p) = true := by
  obtain ⟨B', z', p', _, h2, h3⟩ := ws_write (D := D) h h0 h1 hK hK2
  have h4 := h2.low hK hK2
  have h5 := h.low hK hK2
  unfold fitsB w64 wrap64
  rw [hD, hI]
  simp
  omega
theorem getD_eq {xs ys : List Int} (hl : xs.length = ys.length) (h : ∀ i, i < xs.length → xs.getD i 0 = ys.getD i 0) : xs = ys := by
  refine List.ext_getElem hl (fun i h1 h2 => ?_)
  have := h i h1
  simpa [List.getD, List.getElem?_eq_getElem h1, List.getElem?_eq_getElem h2] using this
/-- What is read of it. -/
theorem ws_read {K : Int} {want : List Int} {B z : Int} {p : List (Int × List Int)} (h : WsOk K want B z p) (off L : Nat) (hl : L = 0 ∨ off + L ≤ want.length) : rdP off L p (pzN off L) = (want.drop off).take L := by
  have hlen : (rdP off L p (pzN off L)).length = L := rd_len (by omega) (Nat.le_refl _)
  have hlen2 : ((want.drop off).take L).length = L := by
    rw [List.length_take, List.length_drop]
    omega
  refine getD_eq (hlen.trans hlen2.symm) (fun i hi => ?_)
  rw [hlen] at hi
  rw [rd_byte (by omega) h.rows (Nat.le_refl _) i (by rw [pz_out (by omega) (by omega)]; omega)]
  rw [show (off : Int) + (i : Int) = ((off + i : Nat) : Int) from by omega, h.bytes]
  simp only [List.getD_eq_getElem?_getD, List.getElem?_take, hi, if_true, List.getElem?_drop]
end Go.Proofs.YtehaoeclnmelhacGreat
