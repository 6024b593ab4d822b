/-
  A root with fifteen files, the first of which is written block by block: in lists. (For TreeRoom.)
-/
import Derived.Test.YtehaoeclnmelhacGreatLayTop
import Derived.Test.YtehaoeclnmelhacGreatTrWrDo
namespace Go.Proofs.YtehaoeclnmelhacGreat
open Go Go.Proofs Go.RowKit Go.Shelf Go.Sort

def rmP (i : Nat) : List UInt8 := [102, UInt8.ofNat (97 + i)]
def rmS (k : Nat) : List Slt := (List.range k).map (fun i => some (i + 1, rmP i)) ++ List.replicate (30 - k) none
def rmA (d : Int) (k : Nat) : Tr := ⟨1, 1, d, (k : Int) + 1, 1, .dir 2 1024 (rmS k) :: List.replicate k newF⟩
theorem rm_look : ∀ k, k ≤ 15 → ∀ i, i < 20 → k ≤ i → lookS (rmS k) (rmP i) = none := by decide +kernel
theorem rm_free : ∀ k, k ≤ 15 → freeAt (rmS k) = k ∧ (rmS k).length = 30 := by decide +kernel
theorem rm_set : ∀ k, k < 15 → (rmS k).set k (some (k + 1, rmP k)) = rmS (k + 1) := by decide +kernel
theorem rm_split : ∀ i, i < 20 → splitL (47 :: rmP i) = some [rmP i] := by decide +kernel
theorem rm_fa : lookS (rmS 15) [102, 97] = some 1 := by decide +kernel
theorem rm_good {d : Int} (h0 : 8 ≤ d) (h1 : d ≤ 100) : inoI 1 1 d = 16 ∧ blkI 1 1 d = d := by
  have hg : good 1 1 d = true := good_iff.2 ⟨by omega, by omega, by omega, by omega, h0, by omega⟩
  rw [ino_yes hg, blk_yes hg]
  omega
theorem rm_room0 : roomL newF.nos = 0 := by kernel_rfl
theorem rmA_ok {d : Int} {k : Nat} (h : k ≤ 15) : ∀ x ∈ (rmA d k).nodes, x.Ok := by
  intro x hx
  simp only [rmA, List.mem_cons, List.mem_replicate] at hx
  rcases hx with rfl | ⟨_, rfl⟩
  · exact ⟨by omega, by omega, by rw [(rm_free k h).2]; omega⟩
  · exact file_ok
theorem rm_spot (d : Int) (k : Nat) (p : List UInt8) : spotE (rmA d k).nodes [] p = (0, some ⟨0, p, lookS (rmS k) p⟩) := rfl
theorem rm_grow {k : Nat} (h : k ≤ 15) : (Nd.dir 2 1024 (rmS k)).growth = 0 := by
  have := rm_free k h
  unfold Nd.growth Nd.slots
  simp only
  rw [if_pos (by omega)]
theorem rm_enterE {d : Int} (h0 : 8 ≤ d) (h1 : d ≤ 100) {k : Nat} (h : k ≤ 15) : enterB (rmA d k) 0 newF = 0 ∧ enterE (rmA d k) 0 newF = if k < 15 then 0 else 16 := by
  have hB : enterB (rmA d k) 0 newF = 0 := by
    unfold enterB
    rw [show nodeAt (rmA d k).nodes 0 = .dir 2 1024 (rmS k) from rfl, rm_grow h, rm_room0]
    unfold w64 wrap64
    omega
  refine ⟨hB, ?_⟩
  unfold enterE
  rw [if_neg (by simp [newF, Nd.isDir]), hB]
  obtain ⟨g1, g2⟩ := rm_good h0 h1
  by_cases hk : k < 15
  · rw [if_pos hk, if_pos]
    unfold fitsB
    simp only [rmA, g1, g2, w64, Bool.and_eq_true, decide_eq_true_eq]
    unfold wrap64
    omega
  · rw [if_neg hk, if_neg]
    unfold fitsB
    simp only [rmA, g1, g2, w64, Bool.and_eq_true, decide_eq_true_eq]
    unfold wrap64
    omega
theorem rm_enter {d : Int} (h0 : 8 ≤ d) (h1 : d ≤ 100) {i : Nat} (hi : i < 20) : enterS (rmA d (min i 15)) (47 :: rmP i) newF = (if i < 15 then 0 else 16, rmA d (min (i + 1) 15)) := by
  have hk : min i 15 ≤ 15 := by omega
  obtain ⟨hB, hE⟩ := rm_enterE h0 h1 hk
  have hl := rm_look (min i 15) hk i hi (by omega)
  unfold enterS
  rw [rm_split i hi]
  by_cases h : i < 15
  · have e : min i 15 = i := by omega
    have e2 : min (i + 1) 15 = i + 1 := by omega
    rw [e] at hB hE hl hk ⊢
    rw [e2, if_pos h]
    rw [if_pos h] at hE
    have hT : enterT (rmA d i) 0 (rmP i) newF = rmA d (i + 1) := by
      unfold enterT
      rw [hB]
      have e1 : w64 ((rmA d i).inodes + 1) = (i : Int) + 2 := by simp only [rmA, w64]; unfold wrap64; omega
      have e2 : w64 ((rmA d i).blocks + 0) = 1 := by simp only [rmA, w64]; unfold wrap64; omega
      rw [e1, e2]
      have e3 : (rmA d i).nodes.length = i + 1 := by simp [rmA]
      have hf := rm_free i hk
      have en : ((rmA d i).nodes ++ [newF]).modify 0 (fun x => if newF.isDir = true then (x.add (rmP i) (rmA d i).nodes.length).more 1 else x.add (rmP i) (rmA d i).nodes.length) = (rmA d (i + 1)).nodes := by
        rw [e3]
        simp only [rmA, List.cons_append, List.modify_zero_cons, newF, Nd.isDir, Nd.add, Bool.false_eq_true, if_false]
        rw [hf.1, if_pos (by omega), rm_set i h, List.replicate_succ']
      rw [en]
      have ei : (i : Int) + 2 = ((i + 1 : Nat) : Int) + 1 := by omega
      rw [ei]
      rfl
    simp [rm_spot, hl, hE, hT]
  · have e : min i 15 = 15 := by omega
    have e2 : min (i + 1) 15 = 15 := by omega
    rw [e] at hE hl ⊢
    rw [e2, if_neg h]
    rw [if_neg (by omega)] at hE
    simp [rm_spot, hl, hE]
/-- The written file. -/
def rmB : List Int := 1 :: zeros 1023
def rmF (n : Nat) : List (Int × List Int) := (upto n).map (fun x => (x, rmB))
def rmZ (n : Nat) : Int := if n = 0 then 0 else 1024 * ((n : Int) - 1) + 1
def rmU (n : Nat) : Int := 1 + n + (if 8 < n then 1 else 0)
def rmW (d : Int) (n : Nat) : Tr := ⟨1, 1, d, 16, rmU n, .dir 2 1024 (rmS 15) :: .file 1 (rmZ n) (rmF n) :: List.replicate 14 newF⟩
theorem rmW_zero (d : Int) : rmA d 15 = rmW d 0 := rfl
def rmR (d : Int) : Nat := (if 8 < d - 1 then d - 2 else d - 1).toNat
theorem rm_keys (n : Nat) : (rmF n).map (·.1) = upto n := by
  unfold rmF
  rw [List.map_map]
  exact (List.map_congr_left (fun _ _ => rfl)).trans (List.map_id _)
theorem mem_upto' {n : Nat} {x : Int} (h : x ∈ upto n) : 0 ≤ x ∧ x < n := by
  unfold upto at h
  simp at h
  omega
theorem mt_small {l : List Int} (h : ∀ x ∈ l, 0 ≤ x ∧ x < 264) : mtN l = if l.any oneB = true then 1 else 0 := by
  have h2 : ∀ x ∈ l, twoB x = false := fun x hx => by
    have := h x hx
    unfold twoB
    simp
    omega
  have hany : l.any twoB = false := by
    rw [List.any_eq_false]
    intro x hx
    simp [h2 x hx]
  have hu : useN l = 0 := by
    unfold useN
    rw [List.length_eq_zero_iff, List.filter_eq_nil_iff]
    intro k _ hk
    unfold useB at hk
    obtain ⟨x, hx, hq⟩ := List.any_eq_true.1 hk
    simp [h2 x hx] at hq
  unfold mtN
  rw [hany, hu]
  simp
theorem rm_roomL {n : Nat} (h : n ≤ 200) : roomL (upto n) = (n : Int) + (if 8 < n then 1 else 0) := by
  unfold roomL
  rw [mt_upto n (by omega), if_neg (by omega)]
  have : (upto n).length = n := by simp [upto]
  rw [this]
  split <;> rfl
theorem rm_roomL1 {n i : Nat} (h : n ≤ i) (hi : i < 200) : roomL (upto n ++ [(i : Int)]) = (n : Int) + 1 + (if 8 ≤ i then 1 else 0) := by
  unfold roomL
  rw [mt_small (fun x hx => by
    rcases List.mem_append.1 hx with hx | hx
    · have := mem_upto' hx; omega
    · have : x = i := by simpa using hx
      omega)]
  have hl : (upto n ++ [(i : Int)]).length = n + 1 := by simp [upto]
  rw [hl]
  have hor : ((upto n ++ [(i : Int)]).any oneB = true) ↔ 8 ≤ i := by
    rw [List.any_append, Bool.or_eq_true]
    constructor
    · rintro (h1 | h1)
      · obtain ⟨x, hx, hb⟩ := List.any_eq_true.1 h1
        have := mem_upto' hx
        unfold oneB at hb
        simp at hb
        omega
      · simp only [List.any_cons, List.any_nil, Bool.or_false] at h1
        unfold oneB at h1
        simp at h1
        omega
    · intro h1
      right
      simp only [List.any_cons, List.any_nil, Bool.or_false]
      unfold oneB
      simp
      omega
  by_cases h8 : 8 ≤ i
  · rw [if_pos (hor.2 h8), if_pos h8]; omega
  · rw [if_neg (fun h => h8 (hor.1 h)), if_neg h8]; omega
theorem rm_pz (i : Nat) : pzN (1024 * (i : Int)) 1 = 1 ∧ pzB (1024 * (i : Int)) 0 = i ∧ pzA (1024 * (i : Int)) 0 = 0 ∧ pzF (1024 * (i : Int)) 1 0 = 0 ∧ pzF (1024 * (i : Int)) 1 1 = 1 := by
  refine ⟨?_, ?_, ?_, ?_, ?_⟩
  · unfold pzN; rw [if_neg (by omega)]; omega
  · unfold pzB; omega
  · unfold pzA; simp only [if_true]; omega
  · unfold pzF; simp only [if_true]
  · unfold pzF; rw [if_neg (by omega)]; omega
theorem rm_fill {n i : Nat} (h : n ≤ i) (hi : i < 200) : fillN (1024 * (i : Int)) 1 (rmF n) = 1 + (if n ≤ 8 ∧ 8 ≤ i then 1 else 0) := by
  obtain ⟨p1, p2, p3, p4, p5⟩ := rm_pz i
  have hm : missK (1024 * (i : Int)) (rmF n) 1 = [(i : Int)] := by
    rw [miss_succ, p2, rm_keys, if_neg (fun hx => by have := mem_upto' hx; omega)]
    rfl
  unfold fillN
  rw [p1, hm, if_neg (by simp), rm_keys, rm_roomL1 h hi, rm_roomL (by omega)]
  by_cases h1 : 8 ≤ i
  · by_cases h2 : n ≤ 8
    · rw [if_pos h1, if_neg (by omega), if_pos ⟨h2, h1⟩]; omega
    · rw [if_pos h1, if_pos (by omega), if_neg (by omega)]; omega
  · rw [if_neg h1, if_neg (by omega), if_neg (by omega)]; omega
theorem rmF_ok (n : Nat) (h : n ≤ 200) : partsOk (rmF n) := by
  refine ⟨?_, fun x hx => ?_⟩
  · rw [rm_keys]
    unfold upto
    rw [List.pairwise_map]
    exact List.pairwise_lt_range.imp (fun h => by omega)
  · unfold rmF at hx
    obtain ⟨y, hy, rfl⟩ := List.mem_map.1 hx
    have := mem_upto' hy
    omega
theorem rmW_ok {d : Int} {n : Nat} (h : n ≤ 200) : ∀ x ∈ (rmW d n).nodes, x.Ok := by
  intro x hx
  simp only [rmW, List.mem_cons, List.mem_replicate] at hx
  rcases hx with rfl | rfl | ⟨_, rfl⟩
  · exact ⟨by omega, by omega, by rw [(rm_free 15 (by omega)).2]; omega⟩
  · refine ⟨rmF_ok n h, ?_⟩
    unfold rmF
    simp [upto]
    omega
  · exact file_ok
theorem rm_fit {d : Int} (h0 : 8 ≤ d) (h1 : d ≤ 100) {n i : Nat} (h : n ≤ i) (hi : i < 200) (hn : n = min i (rmR d)) : fitsB 1 1 d 16 (rmU n) 0 (fillN (1024 * (i : Int)) 1 (rmF n)) = decide (i < rmR d) := by
  obtain ⟨g1, g2⟩ := rm_good h0 h1
  rw [rm_fill h hi]
  unfold fitsB
  rw [g1, g2]
  have hr : (rmR d : Int) = if 8 < d - 1 then d - 2 else d - 1 := by unfold rmR; split <;> omega
  have hu : rmU n = 1 + n + (if 8 < n then 1 else 0) := rfl
  rw [hu]
  have hw1 : decide (w64 (16 + 0) ≤ 16) = true := by unfold w64 wrap64; simp
  rw [hw1, Bool.true_and, decide_eq_decide]
  unfold w64 wrap64
  split at hr <;> split <;> split <;> omega
theorem rm_put {n : Nat} : putP (n : Int) rmB (rmF n) = rmF (n + 1) := by
  unfold putP
  have h1 : (rmF n).filter (fun q => decide (q.1 < (n : Int))) = rmF n := by
    rw [List.filter_eq_self]
    intro a ha
    have : a.1 ∈ upto n := by rw [← rm_keys]; exact List.mem_map.2 ⟨a, ha, rfl⟩
    have := mem_upto' this
    simp; omega
  have h2 : (rmF n).filter (fun q => decide ((n : Int) < q.1)) = [] := by
    rw [List.filter_eq_nil_iff]
    intro a ha
    have : a.1 ∈ upto n := by rw [← rm_keys]; exact List.mem_map.2 ⟨a, ha, rfl⟩
    have := mem_upto' this
    simp; omega
  rw [h1, h2]
  unfold rmF
  rw [upto_succ, List.map_append]
  rfl
theorem rm_wr (n : Nat) : wrP (1024 * (n : Int)) 1 [1] (rmF n) 1 = rmF (n + 1) := by
  obtain ⟨p1, p2, p3, p4, p5⟩ := rm_pz n
  rw [wrP, wrP, p2]
  have hg : getP (rmF n) (n : Int) = none := by
    unfold getP
    rw [Option.map_eq_none_iff, List.find?_eq_none]
    intro a ha
    have : a.1 ∈ upto n := by rw [← rm_keys]; exact List.mem_map.2 ⟨a, ha, rfl⟩
    have := mem_upto' this
    simp; omega
  have hr : wrRow (1024 * (n : Int)) 1 [1] 0 (zeros 1024) = rmB := by
    unfold wrRow wrSeg
    rw [p3, p4, p5]
    decide +kernel
  rw [hg, Option.getD_none, hr]
  exact rm_put
theorem rm_write {d : Int} (h0 : 8 ≤ d) (h1 : d ≤ 100) {n : Nat} (hn : n < 200) (hr : n < rmR d) : writeT (rmW d n) (1024 * (n : Int)) [1] 1 = rmW d (n + 1) := by
  obtain ⟨p1, p2, p3, p4, p5⟩ := rm_pz n
  unfold writeT
  have hp : (nodeAt (rmW d n).nodes 1).parts = rmF n := rfl
  have hl : (([1] : List Int).length : Int) = 1 := rfl
  rw [hp, hl, rm_fill (Nat.le_refl n) hn]
  have e1 : w64 ((rmW d n).inodes + 0) = 16 := by simp only [rmW, w64]; unfold wrap64; omega
  have hR : rmR d ≤ 100 := by unfold rmR; split <;> omega
  have e2 : w64 ((rmW d n).blocks + (1 + (if n ≤ 8 ∧ 8 ≤ n then 1 else 0))) = rmU (n + 1) := by
    simp only [rmW, rmU, w64]
    unfold wrap64
    split <;> split <;> split <;> omega
  rw [e1, e2]
  have e3 : (rmW d n).nodes.modify 1 (fun x => x.wr (1024 * (n : Int)) [1]) = (rmW d (n + 1)).nodes := by
    simp only [rmW, List.modify_succ_cons, List.modify_zero_cons, Nd.wr, hl, p1, rm_wr n]
    have ez : max (rmZ n) (1024 * (n : Int) + 1) = rmZ (n + 1) := by
      unfold rmZ
      rw [if_neg (Nat.succ_ne_zero n)]
      split <;> omega
    rw [ez]
  rw [e3]
  rfl
end Go.Proofs.YtehaoeclnmelhacGreat
