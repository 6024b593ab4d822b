/-
  Directories within directories: a chain of them, in lists.
-/
import Derived.Test.YtehaoeclnmelhacGreatTrAlive
namespace Go.Proofs.YtehaoeclnmelhacGreat
open Go Go.Proofs Go.RowKit Go.Shelf Go.Sort

/-- The directories above the last one. -/
def upD (i : Nat) : Nd := .dir 3 1024 (some (i + 1, [100]) :: List.replicate 29 none)
def chP (k : Nat) : List Nd := (List.range k).map upD
def chT (k : Nat) : Tr := ⟨2, 4, 100, (k : Int) + 1, (k : Int) + 1, chP k ++ [newD]⟩
def chS : Nat → List UInt8
  | 0 => []
  | k + 1 => chS k ++ [47, 100]
theorem chP_len (k : Nat) : (chP k).length = k := by simp [chP]
theorem chP_succ (k : Nat) : chP (k + 1) = chP k ++ [upD k] := by simp [chP, List.range_succ]
theorem chS_len (k : Nat) : (chS k).length = 2 * k := by
  induction k with
  | zero => rfl
  | succ k ih => simp [chS, ih]; omega
theorem ch_new : newT 2 4 100 = chT 0 := by rfl
theorem ch_ok (k : Nat) : ∀ x ∈ (chT k).nodes, x.Ok := by
  intro x hx
  simp only [chT, chP, List.mem_append, List.mem_map, List.mem_singleton] at hx
  rcases hx with ⟨i, -, rfl⟩ | rfl
  · exact ⟨by omega, by omega, by simp⟩
  · exact dir_ok
theorem ch_split : ∀ k, k < 60 → splitL (chS (k + 1)) = some (List.replicate (k + 1) [100]) := by decide +kernel
theorem look_up (i : Nat) : lookS (some (i + 1, [100]) :: List.replicate 29 none) [100] = some (i + 1) := by
  unfold lookS nameAt
  rw [List.findIdx_cons]
  simp [hasB]
theorem modify_mid {α : Type} (A : List α) (x : α) (B : List α) (f : α → α) : (A ++ x :: B).modify A.length f = A ++ f x :: B := by
  induction A with
  | nil => rfl
  | cons a A ih => simp [List.modify_succ_cons, ih]
theorem ch_down (k j : Nat) : ∀ r, j + r = k → downS (chT k).nodes j (List.replicate r [100]) = (0, k) := by
  intro r
  induction r generalizing j with
  | zero => intro h; simp at h; subst h; rfl
  | succ r ih =>
    intro h
    have e : (chT k).nodes[j]? = some (upD j) := by
      simp only [chT]
      rw [List.getElem?_append_left (by rw [chP_len]; omega)]
      simp [chP, show j < k by omega]
    rw [List.replicate_succ]
    rw [(way_dir (List.replicate r [100]) e (look_up j)).2]
    exact ih (j + 1) (by omega)
theorem ch_way (k : Nat) : wayE (chT k).nodes 0 (List.replicate k [100]) = (some k, 0) := by
  unfold wayE
  rw [ch_down k 0 k (by omega)]
  simp
theorem ch_at (k : Nat) : nodeAt (chT k).nodes k = newD := by
  unfold nodeAt chT
  simp [List.getD, chP_len]
theorem look_new : lookS (List.replicate 30 none) [100] = none := by decide
theorem ch_spot (k : Nat) : spotE (chT k).nodes (List.replicate k [100]) [100] = (0, some ⟨k, [100], none⟩) := by
  unfold spotE
  rw [ch_way]
  simp only [ch_at]
  rfl
theorem ch_room : enterB (chT 0) 0 newD = 1 := by kernel_rfl
theorem ch_enterB (k : Nat) : enterB (chT k) k newD = 1 := by
  have := ch_room
  unfold enterB at this ⊢
  rw [ch_at] at this ⊢
  exact this
theorem ch_inodes : inoI 2 4 100 = 128 := by kernel_rfl
theorem ch_blocks : blkI 2 4 100 = 200 := by kernel_rfl
theorem ch_enterE (k : Nat) (h : k < 60) : enterE (chT k) k newD = 0 := by
  unfold enterE
  rw [ch_at, ch_enterB]
  have h1 : ¬ (newD.isDir = true ∧ 32000 ≤ newD.links) := by decide
  have h2 : fitsB (chT k).G (chT k).I (chT k).D (chT k).inodes (chT k).blocks 1 1 = true := by
    unfold fitsB chT
    simp only [ch_inodes, ch_blocks]
    simp only [Bool.and_eq_true, decide_eq_true_eq]
    unfold w64 wrap64
    omega
  rw [if_neg h1, if_pos h2]
theorem up_new (k : Nat) : (newD.add [100] (k + 1)).more 1 = upD k := by
  have h : freeAt (List.replicate 30 (none : Slt)) < (List.replicate 30 (none : Slt)).length := by decide
  have h0 : freeAt (List.replicate 30 (none : Slt)) = 0 := by decide
  unfold newD Nd.add
  simp only
  rw [if_pos h, h0]
  unfold Nd.more upD
  simp only
  rw [show w64 (2 + 1) = 3 by decide +kernel]
  rfl
theorem ch_enterT (k : Nat) (h : k < 60) : enterT (chT k) k [100] newD = chT (k + 1) := by
  unfold enterT
  rw [ch_enterB]
  have h1 : w64 ((chT k).inodes + 1) = ((k + 1 : Nat) : Int) + 1 := by unfold w64 wrap64 chT; simp only; omega
  have h2 : w64 ((chT k).blocks + 1) = ((k + 1 : Nat) : Int) + 1 := by unfold w64 wrap64 chT; simp only; omega
  have h3 : (chT k).nodes.length = k + 1 := by simp [chT, chP_len]
  have h4 : ((chT k).nodes ++ [newD]).modify k (fun x => if newD.isDir = true then (x.add [100] (chT k).nodes.length).more 1 else x.add [100] (chT k).nodes.length) = chP (k + 1) ++ [newD] := by
    rw [h3]
    rw [chP_succ]
    simp only [chT]
    have := modify_mid (chP k) newD [newD] (fun x => if newD.isDir = true then (x.add [100] (k + 1)).more 1 else x.add [100] (k + 1))
    rw [chP_len] at this
    rw [show chP k ++ [newD] ++ [newD] = chP k ++ newD :: [newD] by simp, this]
    rw [show chP k ++ [upD k] ++ [newD] = chP k ++ upD k :: [newD] by simp]
    rw [if_pos (show newD.isDir = true from rfl), up_new]
  rw [h1, h2, h4]
  rfl
theorem ch_enter (k : Nat) (h : k < 60) : enterS (chT k) (chS (k + 1)) newD = (0, chT (k + 1)) := by
  unfold enterS
  rw [ch_split k h]
  have e1 : (List.replicate (k + 1) ([100] : List UInt8)).dropLast = List.replicate k [100] := by simp
  have e2 : (List.replicate (k + 1) ([100] : List UInt8)).getLastD [] = [100] := by rw [List.replicate_succ']; simp
  simp only [e1, e2, ch_spot, ch_enterE k h, ch_enterT k h]
  simp
theorem ch_stat (k : Nat) (h : k < 60) : statV (chT (k + 1)).nodes (chS (k + 1)) = .agg #[.int .i64 0, .slice none 0 0, .int .i64 2, .int .i64 1024, .int .i64 2, .slice none 0 0, .int .i64 0] := by
  unfold statV nodeE
  rw [ch_split k h]
  simp only [ch_way, ch_at]
  rfl
def newDel (_ : Nat) : Nd := .dir 3 1024 (List.replicate 30 none)
theorem ch_del (k : Nat) : (upD k).del [100] = newDel k := by
  unfold upD Nd.del newDel
  have : nameAt (some (k + 1, [100]) :: List.replicate 29 none) [100] = 0 := by
    unfold nameAt
    rw [List.findIdx_cons]
    simp [hasB]
  simp only [this]
  rfl
/-- The chain's last directory is gone. -/
def goT (k : Nat) : Tr := ⟨2, 4, 100, (k : Int) + 1, (k : Int) + 1, chP k ++ [newD, newD]⟩
theorem ch_look (k : Nat) : spotE (chT (k + 1)).nodes (List.replicate k [100]) [100] = (0, some ⟨k, [100], some (k + 1)⟩) ∧ nodeAt (chT (k + 1)).nodes k = upD k := by
  have e : (chT (k + 1)).nodes[k]? = some (upD k) := by
    simp only [chT]
    rw [List.getElem?_append_left (by rw [chP_len]; omega)]
    simp [chP]
  have e2 : nodeAt (chT (k + 1)).nodes k = upD k := by unfold nodeAt; rw [List.getD, e]; rfl
  refine ⟨?_, e2⟩
  have e3 : ∀ j r, j + r = k → downS (chT (k + 1)).nodes j (List.replicate r [100]) = (0, k) := by
    intro j r
    induction r generalizing j with
    | zero => intro h; simp at h; subst h; rfl
    | succ r ih =>
      intro h
      have e : (chT (k + 1)).nodes[j]? = some (upD j) := by
        simp only [chT]
        rw [List.getElem?_append_left (by rw [chP_len]; omega)]
        simp [chP, show j < k + 1 by omega]
      rw [List.replicate_succ, (way_dir (List.replicate r [100]) e (look_up j)).2]
      exact ih (j + 1) (by omega)
  unfold spotE wayE
  rw [e3 0 k (by omega)]
  simp only [if_true, e2]
  rw [if_pos (show (upD k).isDir = true from rfl)]
  unfold upD Nd.slots
  simp only [look_up]
theorem ch_named (k : Nat) (h : k < 60) : namedE (chT (k + 1)).nodes (chS (k + 1)) = (0, some ⟨k, [100], some (k + 1)⟩) := by
  have e1 : (List.replicate (k + 1) ([100] : List UInt8)).dropLast = List.replicate k [100] := by simp
  have e2 : (List.replicate (k + 1) ([100] : List UInt8)).getLastD [] = [100] := by rw [List.replicate_succ']; simp
  unfold namedE
  rw [ch_split k h]
  simp only [e1, e2, (ch_look k).1]
  simp [nmE]
theorem ch_rmdir (k : Nat) (h : k < 60) : rmdirS (chT (k + 1)) (chS (k + 1)) = (0, goT k) := by
  unfold rmdirS
  rw [ch_named k h]
  simp only [ch_at]
  have h1 : newD.isDir = true := rfl
  have h2 : ¬ 0 < usedN newD.slots := by decide
  rw [if_pos h1, if_neg h2]
  congr 1
  unfold loseT goT
  have hx : ((chT (k + 1)).nodes.modify k (fun x => x.del [100])) = chP k ++ newDel k :: [newD] := by
    simp only [chT]
    rw [chP_succ]
    have := modify_mid (chP k) (upD k) [newD] (fun x => x.del [100])
    rw [chP_len] at this
    rw [show chP k ++ [upD k] ++ [newD] = chP k ++ upD k :: [newD] by simp, this, ch_del]
  have hy : nodeAt (chP k ++ newDel k :: [newD]) (k + 1) = newD := by
    unfold nodeAt
    rw [List.getD, List.getElem?_append_right (by rw [chP_len]; omega), chP_len]
    simp
  simp only [hx, hy]
  have h3 : roomL newD.nos = 1 := by kernel_rfl
  rw [h3]
  have := modify_mid (chP k) (newDel k) [newD] (fun x => x.more (-1))
  rw [chP_len] at this
  rw [this]
  have h4 : w64 ((chT (k + 1)).inodes - 1) = (k : Int) + 1 := by unfold w64 wrap64 chT; simp only; omega
  have h5 : w64 ((chT (k + 1)).blocks - 1) = (k : Int) + 1 := by unfold w64 wrap64 chT; simp only; omega
  have h6 : (newDel k).more (-1) = newD := by
    unfold newDel Nd.more
    simp only
    rw [show w64 (3 + -1) = 2 by decide +kernel]
    rfl
  rw [h4, h5, h6]
  rfl
theorem ch_gone (k : Nat) (h : k < 60) : statV (goT k).nodes (chS (k + 1)) = errV 10 := by
  have e3 : ∀ j r, j + r = k → downS (goT k).nodes j (List.replicate r [100] ++ [[100]]) = (10, 0) := by
    intro j r
    induction r generalizing j with
    | zero =>
      intro h
      simp at h
      subst h
      have e : (goT j).nodes[j]? = some newD := by
        simp only [goT]
        rw [List.getElem?_append_right (by rw [chP_len]; omega), chP_len]
        simp
      exact (way_none [] e look_new).2
    | succ r ih =>
      intro h
      have e : (goT k).nodes[j]? = some (upD j) := by
        simp only [goT]
        rw [List.getElem?_append_left (by rw [chP_len]; omega)]
        simp [chP, show j < k by omega]
      rw [List.replicate_succ, List.cons_append, (way_dir _ e (look_up j)).2]
      exact ih (j + 1) (by omega)
  unfold statV nodeE
  rw [ch_split k h]
  simp only
  unfold wayE
  rw [List.replicate_succ', e3 0 k (by omega)]
  rfl
end Go.Proofs.YtehaoeclnmelhacGreat
