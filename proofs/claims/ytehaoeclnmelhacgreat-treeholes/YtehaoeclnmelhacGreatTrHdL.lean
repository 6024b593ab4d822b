/-
  TreeHard, in lists: the names of one file, the file's bytes, and its names' going.
-/
import Derived.Test.YtehaoeclnmelhacGreatTrByte
import Derived.Test.YtehaoeclnmelhacGreatTrLink
import Derived.Test.YtehaoeclnmelhacGreatTrRmL
namespace Go.Proofs.YtehaoeclnmelhacGreat
open Go Go.Proofs Go.RowKit Go.Shelf Go.Sort

def hdP (i : Nat) : List UInt8 := [UInt8.ofNat (97 + i)]
/-- The root's slots: the names from i on, up to n. -/
def hdS (i n : Nat) : List Slt := List.replicate i none ++ (List.range (n - i)).map (fun k => some (1, hdP (i + k))) ++ List.replicate (30 - n) none
theorem hd_look : ∀ n, n ≤ 26 → ∀ i, i < n → lookS (hdS i n) (hdP i) = some 1 := by decide +kernel
theorem hd_last : ∀ n, n ≤ 26 → 0 < n → lookS (hdS 0 n) (hdP (n - 1)) = some 1 := by decide +kernel
theorem hd_none : ∀ n, n < 26 → lookS (hdS 0 n) (hdP n) = none := by decide +kernel
theorem hd_a : ∀ n, n ≤ 26 → 0 < n → lookS (hdS 0 n) [97] = some 1 := by decide +kernel
theorem hd_free : ∀ n, n ≤ 26 → freeAt (hdS 0 n) = n ∧ (hdS 0 n).length = 30 := by decide +kernel
theorem hd_set : ∀ n, n < 26 → (hdS 0 n).set n (some (1, hdP n)) = hdS 0 (n + 1) := by decide +kernel
theorem hd_delB : ∀ n, n ≤ 26 → ∀ i, i < n → decide ((hdS i n).set (nameAt (hdS i n) (hdP i)) none = hdS (i + 1) n) = true := by decide +kernel
theorem hd_del (n : Nat) (hn : n ≤ 26) (i : Nat) (hi : i < n) : (hdS i n).set (nameAt (hdS i n) (hdP i)) none = hdS (i + 1) n := of_decide_eq_true (hd_delB n hn i hi)
theorem hd_len : ∀ n, n ≤ 26 → ∀ i, i < n → (hdS i n).length = 30 := by decide +kernel
theorem hd_split : ∀ i, i < 26 → splitL (47 :: hdP i) = some [hdP i] := by decide +kernel
def hdT (k : Nat) : Tr := ⟨1, 1, 60, 2, 1, [.dir 2 1024 (hdS 0 k), .file k 0 []]⟩
theorem hd_first : enterS (newT 1 1 60) [47, 97] newF = (0, hdT 1) := by kernel_rfl
theorem hd_link {k : Nat} (h0 : 0 < k) (h : k < 26) : linkT (hdT k) 0 (hdP k) 1 = hdT (k + 1) := by
  obtain ⟨f1, f2⟩ := hd_free k (by omega)
  have hg : (nodeAt (hdT k).nodes 0).growth = 0 := by
    show (Nd.dir 2 1024 (hdS 0 k)).growth = 0
    unfold Nd.growth Nd.slots
    simp only
    rw [if_pos (by omega)]
  unfold linkT
  rw [hg]
  have e1 : w64 ((hdT k).inodes + 0) = 2 := by simp only [hdT, w64]; unfold wrap64; omega
  have e2 : w64 ((hdT k).blocks + 0) = 1 := by simp only [hdT, w64]; unfold wrap64; omega
  rw [e1, e2]
  have e3 : ((hdT k).nodes.modify 0 (fun x => x.add (hdP k) 1)).modify 1 (fun x => x.more 1) = (hdT (k + 1)).nodes := by
    simp only [hdT, List.modify_succ_cons, List.modify_zero_cons, Nd.add, Nd.more]
    rw [f1, if_pos (by omega), hd_set k h]
    have : w64 ((k : Int) + 1) = ((k + 1 : Nat) : Int) := by unfold w64 wrap64; omega
    rw [this]
  rw [e3]
  rfl
/-- The file's blocks. -/
def hwB (xs : List Int) : List (Int × List Int) := wrP 0 xs.length xs [] (pzN 0 xs.length)
def hdF (xs : List Int) (n i : Nat) : Tr := ⟨1, 1, 60, 2, 1 + (pzN 0 xs.length : Int), [.dir 2 1024 (hdS i n), .file ((n : Int) - i) xs.length (hwB xs)]⟩
theorem hd_pz {n : Nat} (h0 : 0 < n) (h1 : n ≤ 2000) : pzN 0 n = 1 ∨ pzN 0 n = 2 := by
  unfold pzN
  rw [if_neg (by omega)]
  omega
theorem hd_keys {xs : List Int} (h0 : 0 < xs.length) (h1 : xs.length ≤ 2000) : (hwB xs).map (·.1) = upto (pzN 0 xs.length) := by
  unfold hwB
  rcases hd_pz h0 h1 with h | h
  · rw [h]
    simp only [wrP, putP, pzB]
    simp
    decide
  · rw [h]
    simp only [wrP, putP, pzB]
    simp
    decide
theorem hd_fill {xs : List Int} (h0 : 0 < xs.length) (h1 : xs.length ≤ 2000) : fillN 0 xs.length [] = (pzN 0 xs.length : Int) := by
  unfold fillN
  rcases hd_pz h0 h1 with h | h
  · rw [h]
    decide +kernel
  · rw [h]
    decide +kernel
theorem hd_write {xs : List Int} (h0 : 0 < xs.length) (h1 : xs.length ≤ 2000) {n : Nat} : writeT (hdT n) 0 xs 1 = hdF xs n 0 := by
  unfold writeT
  have hp : (nodeAt (hdT n).nodes 1).parts = [] := rfl
  rw [hp, hd_fill h0 h1]
  have hz := hd_pz h0 h1
  have e1 : w64 ((hdT n).inodes + 0) = 2 := by simp only [hdT, w64]; unfold wrap64; omega
  have e2 : w64 ((hdT n).blocks + (pzN 0 xs.length : Int)) = 1 + (pzN 0 xs.length : Int) := by simp only [hdT, w64]; unfold wrap64; omega
  rw [e1, e2]
  have e3 : (hdT n).nodes.modify 1 (fun x => x.wr 0 xs) = (hdF xs n 0).nodes := by
    simp only [hdT, hdF, List.modify_succ_cons, List.modify_zero_cons, Nd.wr, hwB]
    have a1 : max 0 (0 + (xs.length : Int)) = xs.length := by omega
    have a2 : (n : Int) - ((0 : Nat) : Int) = n := by omega
    rw [a1, a2]
  rw [e3]
  rfl
theorem hd_full (xs : List Int) : fullP (hwB xs) := wr_full (xs := xs) (Int.le_refl 0) (p := []) (fun x d h => by cases h) (Nat.le_refl _)
theorem getP_mem {p : List (Int × List Int)} (hp : (p.map (·.1)).Pairwise (· < ·)) {x : Int × List Int} (h : x ∈ p) : getP p x.1 = some x.2 := by
  unfold getP
  induction p with
  | nil => cases h
  | cons a p ih =>
    rw [List.map_cons, List.pairwise_cons] at hp
    rcases List.mem_cons.1 h with rfl | h
    · rw [List.find?_cons_of_pos (by simp)]; rfl
    · have hlt := hp.1 x.1 (List.mem_map.2 ⟨x, h, rfl⟩)
      rw [List.find?_cons_of_neg (by simp only [decide_eq_true_eq]; omega)]
      exact ih hp.2 h
theorem hd_rows (xs : List Int) : ∀ x ∈ hwB xs, x.2.length = 1024 := fun x hx => hd_full xs x.1 x.2 (getP_mem (wr_len 0 xs.length xs [] _ List.Pairwise.nil).1 hx)
/-- What was written is read. -/
theorem hd_read (xs : List Int) : rdP 0 xs.length (hwB xs) (pzN 0 xs.length) = xs := by
  have hl := rd_len (L := xs.length) (Int.le_refl 0) (p := hwB xs) (k := pzN 0 xs.length) (Nat.le_refl _)
  have ho : pzF 0 xs.length (pzN 0 xs.length) = xs.length := pz_out (Int.le_refl 0) (by omega)
  refine List.ext_getElem hl (fun i h1 h2 => ?_)
  have e1 := rd_byte (L := xs.length) (Int.le_refl 0) (hd_rows xs) (Nat.le_refl _) i (by rw [ho]; omega)
  have e2 := wr_byte (xs := xs) (Int.le_refl 0) (p := []) (fun x d h => by cases h) (Nat.le_refl _) (0 + (i : Int))
  rw [ho, if_pos (by omega)] at e2
  unfold hwB at e1
  rw [e2] at e1
  have g1 : (rdP 0 xs.length (hwB xs) (pzN 0 xs.length)).getD i 0 = (rdP 0 xs.length (hwB xs) (pzN 0 xs.length))[i] := by simp only [List.getD, List.getElem?_eq_getElem h1, Option.getD_some]
  have g2 : xs.getD (0 + (i : Int) - 0).toNat 0 = xs[i] := by
    rw [show (0 + (i : Int) - 0).toNat = i by omega]
    simp only [List.getD, List.getElem?_eq_getElem h2, Option.getD_some]
  rw [← g1, ← g2]
  exact e1
theorem hd_unlink {xs : List Int} {n i : Nat} (hn : n ≤ 26) (hi : i + 1 < n) : loseM { hdF xs n i with nodes := (hdF xs n i).nodes.modify 0 (fun x => x.del (hdP i)) } 1 = hdF xs n (i + 1) := by
  unfold loseM
  simp only [hdF, List.modify_succ_cons, List.modify_zero_cons, Nd.del, Nd.more]
  rw [hd_del n hn i (by omega)]
  have : w64 ((n : Int) - (i : Int) + -1) = (n : Int) - ((i + 1 : Nat) : Int) := by unfold w64 wrap64; omega
  rw [this]
/-- Behind the last name. -/
def hdG (xs : List Int) (n : Nat) : Tr := loseL { hdF xs n (n - 1) with nodes := (hdF xs n (n - 1)).nodes.modify 0 (fun x => x.del (hdP (n - 1))) } 1
theorem hd_used {xs : List Int} (h0 : 0 < xs.length) (h1 : xs.length ≤ 2000) (n : Nat) : (hdG xs n).inodes = 1 ∧ (hdG xs n).blocks = 1 := by
  constructor
  · show w64 (2 - 1) = 1
    unfold w64 wrap64
    omega
  · show w64 (1 + (pzN 0 xs.length : Int) - roomL ((hwB xs).map (·.1))) = 1
    rw [hd_keys h0 h1]
    have hr : roomL (upto (pzN 0 xs.length)) = (pzN 0 xs.length : Int) := by
      rcases hd_pz h0 h1 with h | h
      · rw [h]; decide +kernel
      · rw [h]; decide +kernel
    rw [hr]
    unfold w64 wrap64
    omega
theorem hdT_ok {k : Nat} (h : k ≤ 26) : ∀ x ∈ (hdT k).nodes, x.Ok := by
  intro x hx
  simp only [hdT, List.mem_cons, List.mem_nil_iff, or_false] at hx
  rcases hx with rfl | rfl
  · exact ⟨by omega, by omega, by rw [(hd_free k h).2]; omega⟩
  · exact ⟨⟨List.Pairwise.nil, fun x hx => by cases hx⟩, by simp⟩
theorem hdF_ok {xs : List Int} (h0 : 0 < xs.length) (h1 : xs.length ≤ 2000) {n i : Nat} (hn : n ≤ 26) (hi : i < n) : ∀ x ∈ (hdF xs n i).nodes, x.Ok := by
  intro x hx
  simp only [hdF, List.mem_cons, List.mem_nil_iff, or_false] at hx
  have hk := hd_keys h0 h1
  have hz := hd_pz h0 h1
  rcases hx with rfl | rfl
  · exact ⟨by omega, by omega, by rw [hd_len n hn i hi]; omega⟩
  · refine ⟨⟨(wr_len 0 xs.length xs [] _ List.Pairwise.nil).1, fun x hx => ?_⟩, ?_⟩
    · have : x.1 ∈ (hwB xs).map (·.1) := List.mem_map.2 ⟨x, hx, rfl⟩
      rw [hk] at this
      have := mem_upto' this
      omega
    · have : (hwB xs).length = ((hwB xs).map (·.1)).length := by simp
      rw [this, hk]
      simp [upto]
      omega
end Go.Proofs.YtehaoeclnmelhacGreat
