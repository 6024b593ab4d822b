/-
  A root with files: which slot a name takes, in lists. (For TreeSlots.)
-/
import Derived.Test.YtehaoeclnmelhabGreatLayLaw
import Derived.Test.YtehaoeclnmelhabGreatLayTop
import Derived.Deep.AppendLies
import Derived.Laws.OwnMore
import Derived.Deep.QuietTactic
import Derived.BigQuiet
namespace Go.Proofs.YtehaoeclnmelhabGreat
open Go Go.Proofs Go.RowKit Go.Shelf Go.Sort

/-- A slot by a pair: which node, and by what name. No name: it is free. -/
def sxO (x : Nat × List UInt8) : Slt := if x.2 = [] then none else some x
/-- How many blocks a directory of so many slots takes, two more with it. -/
def sxZ (n : Nat) : Nat := (n + 33) / 32
def sxS (P : List (Nat × List UInt8)) : List Slt := P.map sxO ++ List.replicate (32 * sxZ P.length - 2 - P.length) none
/-- How many names there are. -/
def sxN (P : List (Nat × List UInt8)) : Nat := P.countP (fun x => decide (x.2 ≠ []))
def sxT (P : List (Nat × List UInt8)) (fs : List Nd) : Tr := ⟨1, 4, 60, (sxN P : Int) + 1, (sxZ P.length : Int), .dir 2 (1024 * (sxZ P.length : Int)) (sxS P) :: fs⟩
structure SxOk (P : List (Nat × List UInt8)) (fs : List Nd) : Prop where
  len : P.length ≤ 61
  js : ∀ i j, (hi : i < P.length) → (hj : j < P.length) → P[i].1 = P[j].1 → i = j
  lt : ∀ x ∈ P, 1 ≤ x.1 ∧ x.1 ≤ fs.length
  nw : ∀ x ∈ P, x.2 ≠ [] → fs[x.1 - 1]? = some newF
  ok : ∀ n ∈ fs, n.Ok
  nm : ∀ i j, (hi : i < P.length) → (hj : j < P.length) → P[i].2 = P[j].2 → P[i].2 ≠ [] → i = j
theorem sxN_le (P : List (Nat × List UInt8)) : sxN P ≤ P.length := List.countP_le_length
theorem sxS_at {P : List (Nat × List UInt8)} {i : Nat} (h : i < P.length) : (sxS P)[i]? = some (sxO P[i]) := by
  unfold sxS
  rw [List.getElem?_append_left (by simpa using h)]
  simp [h]
theorem sxS_behind {P : List (Nat × List UInt8)} {i : Nat} {o : Slt} (h : P.length ≤ i) (ho : (sxS P)[i]? = some o) : o = none := by
  unfold sxS at ho
  rw [List.getElem?_append_right (by simpa using h)] at ho
  have := List.mem_of_getElem? ho
  exact List.eq_of_mem_replicate this
theorem sxS_len (P : List (Nat × List UInt8)) : (sxS P).length = 32 * sxZ P.length - 2 := by
  unfold sxS sxZ
  simp only [List.length_append, List.length_map, List.length_replicate]
  omega
theorem sxS_le (P : List (Nat × List UInt8)) : P.length ≤ (sxS P).length := by rw [sxS_len]; unfold sxZ; omega
theorem sx_name {P : List (Nat × List UInt8)} {fs : List Nd} (h : SxOk P fs) {i : Nat} (hi : i < P.length) (hp : P[i].2 ≠ []) : nameAt (sxS P) P[i].2 = i := by
  unfold nameAt
  have hl := sxS_le P
  have hget : ∀ j, (hj : j < P.length) → (sxS P)[j]'(by omega) = sxO P[j] := fun j hj => by
    have := sxS_at hj
    rw [List.getElem?_eq_getElem (by omega)] at this
    exact Option.some.inj this
  rw [List.findIdx_eq (by omega)]
  refine ⟨?_, fun j hj => ?_⟩
  · rw [hget i hi]
    simp [sxO, hp, hasB]
  · rw [hget j (by omega)]
    unfold sxO
    split
    · rfl
    · simp only [hasB, decide_eq_false_iff_not]
      intro e
      have := h.nm j i (by omega) hi e (by assumption)
      omega
theorem sx_look {P : List (Nat × List UInt8)} {fs : List Nd} (h : SxOk P fs) {i : Nat} (hi : i < P.length) (hp : P[i].2 ≠ []) : lookS (sxS P) P[i].2 = some P[i].1 := by
  unfold lookS
  rw [sx_name h hi hp, List.getD, sxS_at hi]
  simp [sxO, hp]
theorem sx_look_no {P : List (Nat × List UInt8)} {p : List UInt8} (h : ∀ x ∈ P, x.2 ≠ p) : lookS (sxS P) p = none := by
  have : ∀ o ∈ sxS P, hasB p o = false := by
    intro o ho
    unfold sxS at ho
    simp only [List.mem_append, List.mem_map] at ho
    rcases ho with ⟨x, hx, rfl⟩ | ho
    · unfold sxO
      split
      · rfl
      · simp only [hasB, decide_eq_false_iff_not]
        exact h x hx
    · rw [List.eq_of_mem_replicate ho]; rfl
  unfold lookS nameAt
  rw [List.findIdx_eq_length_of_false (by simpa using this)]
  simp [List.getD]
theorem sx_free {P : List (Nat × List UInt8)} {i : Nat} (hi : i < P.length) (hp : P[i].2 = []) (hn : ∀ j, (hj : j < i) → P[j].2 ≠ []) : freeAt (sxS P) = i := by
  have hl := sxS_le P
  have hget : ∀ j, (hj : j < P.length) → (sxS P)[j]'(by omega) = sxO P[j] := fun j hj => by
    have := sxS_at hj
    rw [List.getElem?_eq_getElem (by omega)] at this
    exact Option.some.inj this
  unfold freeAt
  rw [List.findIdx_eq (by omega)]
  refine ⟨?_, fun j hj => ?_⟩
  · rw [hget i hi]; simp [sxO, hp]
  · rw [hget j (by omega)]; simp [sxO, hn j hj]
theorem sx_free_end {P : List (Nat × List UInt8)} (hn : ∀ j, (hj : j < P.length) → P[j].2 ≠ []) : freeAt (sxS P) = P.length := by
  have hl := sxS_le P
  have hget : ∀ j, (hj : j < P.length) → (sxS P)[j]'(by omega) = sxO P[j] := fun j hj => by
    have := sxS_at hj
    rw [List.getElem?_eq_getElem (by omega)] at this
    exact Option.some.inj this
  by_cases hlt : P.length < (sxS P).length
  · unfold freeAt
    rw [List.findIdx_eq hlt]
    refine ⟨?_, fun j hj => ?_⟩
    · have : (sxS P)[P.length]? = some (sxS P)[P.length] := List.getElem?_eq_getElem hlt
      rw [sxS_behind (Nat.le_refl _) this]
      rfl
    · rw [hget j hj]; simp [sxO, hn j hj]
  · have e : (sxS P).length = P.length := by omega
    unfold freeAt
    rw [← e]
    apply List.findIdx_eq_length_of_false
    intro o ho
    obtain ⟨j, hj, rfl⟩ := List.mem_iff_getElem.1 ho
    rw [hget j (by omega)]
    simp [sxO, hn j (by omega)]
theorem sx_down (P : List (Nat × List UInt8)) (fs : List Nd) : wayE (sxT P fs).nodes 0 [] = (some 0, 0) := rfl
theorem sx_root (P : List (Nat × List UInt8)) (fs : List Nd) : nodeAt (sxT P fs).nodes 0 = .dir 2 (1024 * (sxZ P.length : Int)) (sxS P) := rfl
theorem sx_spot (P : List (Nat × List UInt8)) (fs : List Nd) (p : List UInt8) : spotE (sxT P fs).nodes [] p = (0, some ⟨0, p, lookS (sxS P) p⟩) := by
  unfold spotE
  rw [sx_down]
  simp only [sx_root]
  rfl
theorem sx_inodes : inoI 1 4 60 = 64 := by kernel_rfl
theorem sx_blocks : blkI 1 4 60 = 60 := by kernel_rfl
theorem sx_set {P : List (Nat × List UInt8)} {i : Nat} (hi : i < P.length) (x : Nat × List UInt8) : sxS (P.set i x) = (sxS P).set i (sxO x) := by
  unfold sxS
  rw [List.length_set, List.set_append_left _ _ (by simpa using hi), List.map_set]
theorem sx_room0 : roomL newF.nos = 0 := by kernel_rfl
theorem sx_enter_set {P : List (Nat × List UInt8)} {fs : List Nd} (h : SxOk P fs) {i : Nat} (hi : i < P.length) (hg : P[i].2 = []) (hn : ∀ j, (hj : j < i) → P[j].2 ≠ []) {s p : List UInt8} (hs : splitL s = some [p]) (hp : p ≠ []) (hx : ∀ x ∈ P, x.2 ≠ p) :
    enterS (sxT P fs) s newF = (0, sxT (P.set i (fs.length + 1, p)) (fs ++ [newF])) := by
  have hf := sx_free hi hg hn
  have hl := sxS_le P
  have hz : sxZ P.length ≤ 2 := by have := h.len; unfold sxZ; omega
  have hc := sxN_le P
  have hN : sxN (P.set i (fs.length + 1, p)) = sxN P + 1 := by
    unfold sxN
    have e : P = P.take i ++ P[i] :: P.drop (i + 1) := by simp
    have e2 : P.set i (fs.length + 1, p) = P.take i ++ (fs.length + 1, p) :: P.drop (i + 1) := by rw [List.set_eq_take_append_cons_drop, if_pos hi]
    rw [e2]
    conv => rhs; rw [e]
    simp only [List.countP_append, List.countP_cons, hg]
    simp [hp]
    omega
  have hgr : (Nd.dir 2 (1024 * (sxZ P.length : Int)) (sxS P)).growth = 0 := by
    unfold Nd.growth Nd.slots
    simp only
    rw [hf, if_pos (by omega)]
  have hB : enterB (sxT P fs) 0 newF = 0 := by
    unfold enterB
    rw [sx_root, hgr, sx_room0]
    decide +kernel
  have hE : enterE (sxT P fs) 0 newF = 0 := by
    unfold enterE
    rw [if_neg (by simp [newF, Nd.isDir]), hB, if_pos]
    unfold fitsB sxT
    simp only [sx_inodes, sx_blocks, Bool.and_eq_true, decide_eq_true_eq]
    have := h.len
    unfold w64 wrap64
    omega
  have hT : enterT (sxT P fs) 0 p newF = sxT (P.set i (fs.length + 1, p)) (fs ++ [newF]) := by
    unfold enterT
    rw [hB]
    have h1 : w64 ((sxT P fs).inodes + 1) = ((sxN (P.set i (fs.length + 1, p)) : Nat) : Int) + 1 := by
      have := h.len
      rw [hN]
      unfold w64 wrap64 sxT; simp only; omega
    have h2 : w64 ((sxT P fs).blocks + 0) = ((sxZ (P.set i (fs.length + 1, p)).length : Nat) : Int) := by
      rw [List.length_set]
      unfold w64 wrap64 sxT; simp only; omega
    rw [h1, h2]
    unfold sxT
    simp only [List.cons_append, List.modify_zero_cons, List.length_cons]
    rw [if_neg (by simp [newF, Nd.isDir])]
    unfold Nd.add
    simp only
    rw [hf, if_pos (by omega), sx_set hi, List.length_set]
    simp [sxO, hp]
  unfold enterS
  rw [hs]
  simp only [show ([p] : List (List UInt8)).dropLast = [] from rfl, show ([p] : List (List UInt8)).getLastD [] = p from rfl, sx_spot]
  rw [if_neg (by simp), sx_look_no hx, if_pos rfl, hE, if_pos rfl, hT]
theorem sx_grow : roomL (upto 1 ++ [((upto 1).length : Int)]) - roomL (upto 1) = 1 := by kernel_rfl
theorem sx_enter_add {P : List (Nat × List UInt8)} {fs : List Nd} (h60 : P.length ≤ 60) (hn : ∀ j, (hj : j < P.length) → P[j].2 ≠ []) {s p : List UInt8} (hs : splitL s = some [p]) (hp : p ≠ []) (hx : ∀ x ∈ P, x.2 ≠ p) :
    enterS (sxT P fs) s newF = (0, sxT (P ++ [(fs.length + 1, p)]) (fs ++ [newF])) := by
  have hf := sx_free_end hn
  have hl := sxS_le P
  have hsl := sxS_len P
  have hc := sxN_le P
  have hN : sxN (P ++ [(fs.length + 1, p)]) = sxN P + 1 := by
    unfold sxN
    simp [List.countP_append, hp]
  have key : enterB (sxT P fs) 0 newF = ((sxZ (P.length + 1) : Nat) : Int) - sxZ P.length ∧ (Nd.dir 2 (1024 * (sxZ P.length : Int)) (sxS P)).add p (fs.length + 1) = .dir 2 (1024 * (sxZ (P.length + 1) : Int)) (sxS (P ++ [(fs.length + 1, p)])) := by
    by_cases hlt : P.length < (sxS P).length
    · have ez : sxZ (P.length + 1) = sxZ P.length := by rw [hsl] at hlt; unfold sxZ at hlt ⊢; omega
      constructor
      · unfold enterB
        have hgr : (Nd.dir 2 (1024 * (sxZ P.length : Int)) (sxS P)).growth = 0 := by
          unfold Nd.growth Nd.slots
          simp only
          rw [hf, if_pos hlt]
        rw [sx_root, hgr, sx_room0, ez]
        simp only [Int.sub_self]
        decide +kernel
      · unfold Nd.add
        simp only
        rw [hf, if_pos hlt, ez]
        congr 1
        unfold sxS
        rw [List.length_append, List.length_singleton, ez, List.map_append, List.append_assoc]
        rw [List.set_append_right _ _ (by simp)]
        simp only [List.length_map, Nat.sub_self]
        have e : 32 * sxZ P.length - 2 - P.length = (32 * sxZ P.length - 2 - (P.length + 1)) + 1 := by rw [hsl] at hlt; omega
        rw [e, List.replicate_succ]
        simp [sxO, hp]
    · have e30 : P.length = 30 := by rw [hsl] at hlt hl; unfold sxZ at hlt hl; omega
      have ez : sxZ (P.length + 1) = 2 := by rw [e30]; rfl
      have ez0 : sxZ P.length = 1 := by rw [e30]; rfl
      constructor
      · unfold enterB
        have hgr : (Nd.dir 2 (1024 * (sxZ P.length : Int)) (sxS P)).growth = 1 := by
          unfold Nd.growth Nd.slots
          simp only
          rw [hf, if_neg hlt]
          unfold Nd.nos
          simp only
          rw [ez0]
          exact sx_grow
        rw [sx_root, hgr, sx_room0, ez, ez0]
        decide +kernel
      · unfold Nd.add
        simp only
        rw [hf, if_neg hlt, ez, ez0]
        have e1 : (sxS P).length = P.length := by omega
        have e2 : sxS P = P.map sxO := by unfold sxS; rw [ez0, e30]; simp
        rw [show w64 (1024 * ((1 : Nat) : Int) + 1024) = 1024 * ((2 : Nat) : Int) by decide +kernel]
        congr 1
        rw [e1, e2]
        unfold sxS
        rw [List.length_append, List.length_singleton, ez, e30, List.map_append, List.append_assoc]
        rw [List.set_append_right _ _ (by simp [e30])]
        simp only [List.length_map, e30, Nat.sub_self]
        rw [show (32 : Nat) = 31 + 1 from rfl, List.replicate_succ]
        simp [sxO, hp]
  obtain ⟨hB, hA⟩ := key
  have hz1 : sxZ (P.length + 1) ≤ 2 := by unfold sxZ; omega
  have hE : enterE (sxT P fs) 0 newF = 0 := by
    unfold enterE
    rw [if_neg (by simp [newF, Nd.isDir]), hB, if_pos]
    unfold fitsB sxT
    simp only [sx_inodes, sx_blocks, Bool.and_eq_true, decide_eq_true_eq]
    unfold w64 wrap64
    omega
  have hT : enterT (sxT P fs) 0 p newF = sxT (P ++ [(fs.length + 1, p)]) (fs ++ [newF]) := by
    unfold enterT
    rw [hB]
    have h1 : w64 ((sxT P fs).inodes + 1) = ((sxN (P ++ [(fs.length + 1, p)]) : Nat) : Int) + 1 := by
      rw [hN]
      unfold w64 wrap64 sxT; simp only; omega
    have h2 : w64 ((sxT P fs).blocks + (((sxZ (P.length + 1) : Nat) : Int) - sxZ P.length)) = ((sxZ (P ++ [(fs.length + 1, p)]).length : Nat) : Int) := by
      rw [List.length_append, List.length_singleton]
      unfold w64 wrap64 sxT; simp only; omega
    rw [h1, h2]
    unfold sxT
    simp only [List.cons_append, List.modify_zero_cons, List.length_cons]
    rw [if_neg (by simp [newF, Nd.isDir]), hA, List.length_append, List.length_singleton]
  unfold enterS
  rw [hs]
  simp only [show ([p] : List (List UInt8)).dropLast = [] from rfl, show ([p] : List (List UInt8)).getLastD [] = p from rfl, sx_spot]
  rw [if_neg (by simp), sx_look_no hx, if_pos rfl, hE, if_pos rfl, hT]
/-- A file that lost its name. -/
def sxGone (fs : List Nd) (j : Nat) : List Nd := fs.modify (j - 1) (fun x => x.more (-1))
theorem sx_named {P : List (Nat × List UInt8)} {fs : List Nd} (h : SxOk P fs) {i : Nat} (hi : i < P.length) (hp : P[i].2 ≠ []) {s : List UInt8} (hs : splitL s = some [P[i].2]) : namedE (sxT P fs).nodes s = (0, some ⟨0, P[i].2, some P[i].1⟩) := by
  unfold namedE
  rw [hs]
  simp only [show ([P[i].2] : List (List UInt8)).dropLast = [] from rfl, show ([P[i].2] : List (List UInt8)).getLastD [] = P[i].2 from rfl, sx_spot]
  rw [if_neg (by simp), sx_look h hi hp]
  rfl
theorem sx_file {P : List (Nat × List UInt8)} {fs : List Nd} (h : SxOk P fs) {i : Nat} (hi : i < P.length) (hp : P[i].2 ≠ []) (r : Nd) : nodeAt (r :: fs) P[i].1 = newF := by
  have h1 := (h.lt _ (List.getElem_mem hi)).1
  have h2 := h.nw _ (List.getElem_mem hi) hp
  obtain ⟨k, hk⟩ : ∃ k, P[i].1 = k + 1 := ⟨P[i].1 - 1, by omega⟩
  rw [hk] at h2 ⊢
  unfold nodeAt
  rw [List.getD, List.getElem?_cons_succ]
  simp only [Nat.add_sub_cancel] at h2
  rw [h2]
  rfl
theorem sx_lose {P : List (Nat × List UInt8)} {fs : List Nd} (h : SxOk P fs) {i : Nat} (hi : i < P.length) (hp : P[i].2 ≠ []) :
    loseL { sxT P fs with nodes := (sxT P fs).nodes.modify 0 (fun x => x.del P[i].2) } P[i].1 = sxT (P.set i (P[i].1, [])) (sxGone fs P[i].1) := by
  have h1 := (h.lt _ (List.getElem_mem hi)).1
  have hc := sxN_le P
  have hN : sxN P = sxN (P.set i (P[i].1, [])) + 1 := by
    unfold sxN
    have e : P = P.take i ++ P[i] :: P.drop (i + 1) := by simp
    have e2 : P.set i (P[i].1, []) = P.take i ++ (P[i].1, []) :: P.drop (i + 1) := by rw [List.set_eq_take_append_cons_drop, if_pos hi]
    rw [e2]
    conv => lhs; rw [e]
    simp only [List.countP_append, List.countP_cons]
    simp [hp]
    omega
  have hm : (sxT P fs).nodes.modify 0 (fun x => x.del P[i].2) = .dir 2 (1024 * (sxZ P.length : Int)) (sxS (P.set i (P[i].1, []))) :: fs := by
    unfold sxT
    simp only [List.modify_zero_cons]
    unfold Nd.del
    simp only
    rw [sx_name h hi hp, sx_set hi]
    simp [sxO]
  unfold loseL
  simp only [hm]
  rw [sx_file h hi hp, sx_room0]
  have hl := h.len
  have hz : sxZ P.length ≤ 2 := by unfold sxZ; omega
  have e1 : w64 ((sxT P fs).inodes - 1) = ((sxN (P.set i (P[i].1, [])) : Nat) : Int) + 1 := by unfold w64 wrap64 sxT; simp only; omega
  have e2 : w64 ((sxT P fs).blocks - 0) = ((sxZ (P.set i (P[i].1, [])).length : Nat) : Int) := by rw [List.length_set]; unfold w64 wrap64 sxT; simp only; omega
  rw [e1, e2]
  obtain ⟨k, hk⟩ : ∃ k, P[i].1 = k + 1 := ⟨P[i].1 - 1, by omega⟩
  unfold sxGone
  rw [hk, List.modify_succ_cons, Nat.add_sub_cancel]
  unfold sxT
  rw [List.length_set]
theorem sxS_ok {P : List (Nat × List UInt8)} {fs : List Nd} (h : SxOk P fs) : ∀ n ∈ (sxT P fs).nodes, n.Ok := by
  intro n hn
  unfold sxT at hn
  simp only [List.mem_cons] at hn
  rcases hn with rfl | hn
  · have hl := h.len
    have hz : sxZ P.length ≤ 2 := by unfold sxZ; omega
    refine ⟨by omega, by omega, ?_⟩
    rw [sxS_len]
    omega
  · exact h.ok n hn
theorem newF_ok : newF.Ok := ⟨⟨List.Pairwise.nil, fun x hx => by cases hx⟩, by simp⟩
theorem more_ok {n : Nd} (h : n.Ok) (k : Int) : (n.more k).Ok := by cases n <;> exact h
theorem sx_ok_new {P : List (Nat × List UInt8)} {fs : List Nd} (h : SxOk P fs) {Q : List (Nat × List UInt8)} {p : List UInt8} (hQ : Q.length ≤ 61) (hj : ∀ i j, (hi : i < Q.length) → (hj : j < Q.length) → Q[i].1 = Q[j].1 → i = j) (hm : ∀ x ∈ Q, x ∈ P ∨ x = (fs.length + 1, p)) (hn : ∀ i j, (hi : i < Q.length) → (hj : j < Q.length) → Q[i].2 = Q[j].2 → Q[i].2 ≠ [] → i = j) : SxOk Q (fs ++ [newF]) where
  len := hQ
  js := hj
  lt := fun x hx => by
    rcases hm x hx with hx | rfl
    · have := h.lt x hx; simp; omega
    · simp
  nw := fun x hx hp => by
    rcases hm x hx with hx | rfl
    · have h1 := h.lt x hx
      rw [List.getElem?_append_left (by omega)]
      exact h.nw x hx hp
    · simp
  ok := fun n hn => by
    simp only [List.mem_append, List.mem_singleton] at hn
    rcases hn with hn | rfl
    · exact h.ok n hn
    · exact newF_ok
  nm := hn
theorem sx_fresh {P : List (Nat × List UInt8)} {fs : List Nd} (h : SxOk P fs) : ∀ x ∈ P, x.1 ≠ fs.length + 1 := by
  intro x hx e
  have := h.lt x hx
  omega
theorem sx_ok_add {P : List (Nat × List UInt8)} {fs : List Nd} (h : SxOk P fs) (h60 : P.length ≤ 60) {p : List UInt8} (hx : ∀ x ∈ P, x.2 ≠ p) : SxOk (P ++ [(fs.length + 1, p)]) (fs ++ [newF]) := by
  refine sx_ok_new h (p := p) (by simp; omega) ?_ (fun x hx => by simpa using hx) ?_
  · intro i j hi hj e
    simp only [List.length_append, List.length_singleton] at hi hj
    rw [List.getElem_append, List.getElem_append] at e
    split at e <;> split at e
    · rename_i a b; exact h.js i j a b e
    · rename_i a b; simp at e; exact absurd e (sx_fresh h _ (List.getElem_mem a))
    · rename_i a b; simp at e; exact absurd e.symm (sx_fresh h _ (List.getElem_mem b))
    · omega
  · intro i j hi hj e hne
    simp only [List.length_append, List.length_singleton] at hi hj
    rw [List.getElem_append, List.getElem_append] at e
    rw [List.getElem_append] at hne
    split at e <;> split at e
    · rename_i a b; rw [dif_pos a] at hne; exact h.nm i j a b e hne
    · rename_i a b; simp at e; exact absurd e (hx _ (List.getElem_mem a))
    · rename_i a b; simp at e; exact absurd e.symm (hx _ (List.getElem_mem b))
    · omega
theorem sx_ok_set {P : List (Nat × List UInt8)} {fs : List Nd} (h : SxOk P fs) (i : Nat) {p : List UInt8} (hx : ∀ x ∈ P, x.2 ≠ p) : SxOk (P.set i (fs.length + 1, p)) (fs ++ [newF]) := by
  refine sx_ok_new h (p := p) (by simpa using h.len) ?_ (fun x hx => List.mem_or_eq_of_mem_set hx) ?_
  · intro a b ha hb e
    simp only [List.length_set] at ha hb
    rw [List.getElem_set, List.getElem_set] at e
    split at e <;> split at e
    · omega
    · exact absurd e.symm (sx_fresh h _ (List.getElem_mem hb))
    · exact absurd e (sx_fresh h _ (List.getElem_mem ha))
    · exact h.js a b ha hb e
  · intro a b ha hb e hne
    simp only [List.length_set] at ha hb
    rw [List.getElem_set, List.getElem_set] at e
    rw [List.getElem_set] at hne
    split at e <;> split at e
    · omega
    · exact absurd e.symm (hx _ (List.getElem_mem hb))
    · exact absurd e (hx _ (List.getElem_mem ha))
    · rw [if_neg (by assumption)] at hne; exact h.nm a b ha hb e hne
theorem sx_ok_gone {P : List (Nat × List UInt8)} {fs : List Nd} (h : SxOk P fs) {i : Nat} (hi : i < P.length) : SxOk (P.set i (P[i].1, [])) (sxGone fs P[i].1) where
  len := by simpa using h.len
  js := fun a b ha hb e => by
    simp only [List.length_set] at ha hb
    rw [List.getElem_set, List.getElem_set] at e
    split at e <;> split at e
    · omega
    · rename_i u v; subst u; exact h.js _ b hi hb e
    · rename_i u v; subst v; exact h.js a _ ha hi e
    · exact h.js a b ha hb e
  lt := fun x hx => by
    have hl : (sxGone fs P[i].1).length = fs.length := by simp [sxGone]
    rw [hl]
    rcases List.mem_or_eq_of_mem_set hx with hx | rfl
    · exact h.lt x hx
    · exact h.lt P[i] (List.getElem_mem hi)
  nw := fun x hx hp => by
    obtain ⟨k, hk, rfl⟩ := List.mem_iff_getElem.1 hx
    rw [List.length_set] at hk
    by_cases e : i = k
    · subst e; simp at hp
    · rw [List.getElem_set, if_neg e] at hp ⊢
      have h1 := h.lt _ (List.getElem_mem hk)
      have h2 := h.lt _ (List.getElem_mem hi)
      have hne : P[i].1 ≠ P[k].1 := fun ee => e (h.js i k hi hk ee)
      unfold sxGone
      rw [List.getElem?_modify, h.nw _ (List.getElem_mem hk) hp]
      have : ¬ P[i].1 - 1 = P[k].1 - 1 := by omega
      simp [this]
  ok := fun n hn => by
    unfold sxGone at hn
    obtain ⟨k, hk⟩ := List.mem_iff_getElem?.1 hn
    rw [List.getElem?_modify] at hk
    cases hf : fs[k]? with
    | none => rw [hf] at hk; cases hk
    | some m =>
      rw [hf] at hk
      have hm := h.ok m (List.mem_of_getElem? hf)
      simp only [Option.map_eq_map, Option.map_some, Option.some.injEq] at hk
      split at hk
      · subst hk; exact more_ok hm _
      · subst hk; exact hm
  nm := fun a b ha hb e hne => by
    simp only [List.length_set] at ha hb
    rw [List.getElem_set, List.getElem_set] at e
    rw [List.getElem_set] at hne
    split at e <;> split at e
    · omega
    · rename_i u v; rw [if_pos u] at hne; exact absurd rfl hne
    · rename_i u v; rw [if_neg u] at hne; exact absurd e hne
    · rename_i u v; rw [if_neg u] at hne; exact h.nm a b ha hb e hne
theorem sx_list (P : List (Nat × List UInt8)) : listL (sxS P) = (P.map (·.2)).filter (fun p => decide (p ≠ [])) := by
  unfold listL sxS
  rw [List.filterMap_append]
  have e : (List.replicate (32 * sxZ P.length - 2 - P.length) (none : Slt)).filterMap (fun o => o.map (·.2)) = [] := by
    rw [List.filterMap_eq_nil_iff]
    intro a ha
    rw [List.eq_of_mem_replicate ha]
    rfl
  rw [e, List.append_nil]
  clear e
  induction P with
  | nil => rfl
  | cons x P ih =>
    simp only [List.map_cons, List.filterMap_cons, List.filter_cons]
    rw [ih]
    by_cases h : x.2 = [] <;> simp [sxO, h]
theorem sx_stat (P : List (Nat × List UInt8)) (fs : List Nd) : statV (sxT P fs).nodes [47] = .agg #[.int .i64 0, .slice none 0 0, .int .i64 2, .int .i64 (1024 * (sxZ P.length : Int)), .int .i64 2, .slice none 0 0, .int .i64 0] := by
  unfold statV nodeE
  rw [show splitL [47] = some [] by decide +kernel]
  rfl
theorem sx_node (P : List (Nat × List UInt8)) (fs : List Nd) : nodeE (sxT P fs).nodes [47] = (some 0, 0) := by
  unfold nodeE
  rw [show splitL [47] = some [] by decide +kernel]
  rfl
theorem sx_new : newT 1 4 60 = sxT [] [] := by rfl
theorem sx_ok_nil : SxOk [] [] := ⟨by simp, by simp, by simp, by simp, by simp, fun i j hi => by cases hi⟩
end Go.Proofs.YtehaoeclnmelhabGreat
namespace Go.Proofs.YtehaoeclnmelhabGreat
open Go Go.Proofs Go.RowKit Go.Shelf Go.Sort

/-- A tree of files and a row of names lie apart, made since w; the blocks of B beside them. -/
structure SxW (w W : World) (t : Nat) (v : Value) (L : List (List UInt8)) (P : List (Nat × List UInt8)) (fs : List Nd) (B : Nat → Prop) : Prop where
  ok : SxOk P fs
  row : W.ownsRow w.heap.size 9 1 v L.length (Sy L)
  own : OwnT w W t (sxT P fs) (fun k => v.ownBlock = some k ∨ B k)
  lt : ∀ k, B k → k < W.heap.size ∧ v.ownBlock ≠ some k
theorem owns_kept {W W' : World} {b : Nat} {e : TypeId} {s : Nat} {v : Value} {n : Nat} {xs : List Value} (h : W.ownsRow b e s v n xs) (hk : ∀ k, v.ownBlock = some k → W'.heap[k]? = W.heap[k]?) : W'.ownsRow b e s v n xs := by
  refine ⟨h.1, ?_⟩
  rcases h.2 with hn | ⟨g, cap, cur, rfl, h1, h2, h3⟩
  · exact .inl hn
  · exact .inr ⟨g, cap, cur, rfl, h1, (hk g rfl).trans h2, h3⟩
theorem SxW.then {w W W' : World} {t : Nat} {v : Value} {L : List (List UInt8)} {P : List (Nat × List UInt8)} {fs : List Nd} {B : Nat → Prop} (h : SxW w W t v L P fs B) (hB : Below W.heap.size W W') : SxW w W' t v L P fs B :=
  ⟨h.ok, owns_kept h.row (fun k hk => hB.block k (h.row.lt k hk).2), h.own.then hB, fun k hk => ⟨Nat.lt_of_lt_of_le (h.lt k hk).1 hB.size, (h.lt k hk).2⟩⟩
theorem SxW.less {w W : World} {t : Nat} {v : Value} {L : List (List UInt8)} {P : List (Nat × List UInt8)} {fs : List Nd} {B B' : Nat → Prop} (h : SxW w W t v L P fs B) (hB : ∀ k, B' k → B k) : SxW w W t v L P fs B' :=
  ⟨h.ok, h.row, h.own.less (fun k hk => hk.imp id (hB k)), fun k hk => h.lt k (hB k hk)⟩
theorem SxW.box {w W : World} {t : Nat} {v : Value} {L : List (List UInt8)} {P : List (Nat × List UInt8)} {fs : List Nd} {B : Nat → Prop} (h : SxW w W t v L P fs B) (o : Obj) : SxW w (W.alloc o) t v L P fs (fun k => B k ∨ k = W.heap.size) := by
  refine ⟨h.ok, h.row.alloc o, (h.own.box o).less (fun k hk => ?_), fun k hk => ?_⟩
  · rcases hk with hk | hk | hk
    · exact .inl (.inl hk)
    · exact .inl (.inr hk)
    · exact .inr hk
  · rcases hk with hk | rfl
    · have := h.lt k hk; exact ⟨by simp; omega, this.2⟩
    · exact ⟨by simp, fun e => by have := (h.row.lt _ e).2; omega⟩
theorem SxW.below {w W : World} {t : Nat} {v : Value} {L : List (List UInt8)} {P : List (Nat × List UInt8)} {fs : List Nd} {B : Nat → Prop} (h : SxW w W t v L P fs B) : Below w.heap.size w W := h.own.below
/-- A call of Do that turns the tree. -/
theorem sxw_do {w W : World} {t : Nat} {v u : Value} {L : List (List UInt8)} {P P' : List (Nat × List UInt8)} {fs fs' : List Nd} {B : Nat → Prop} {F : FuncId} {vs : Array Value} (h : SxW w W t v L P fs B) (hok : SxOk P' fs') (hC : ∀ Ls, TrAt W t (sxT P fs) Ls → Calls Tryz.prog F vs W fun e w' => e = .returned u ∧ Step (fun k => k ∈ feet t Ls) W t w' (sxT P' fs')) :
    Calls Tryz.prog F vs W fun e w' => e = .returned u ∧ SxW w w' t v L P' fs' B ∧ (∀ k, B k → w'.heap[k]? = W.heap[k]?) ∧ W.heap.size ≤ w'.heap.size := by
  refine (own_do h.own (fun k hk => hk.elim (fun e => (h.row.lt k e).2) (fun e => (h.lt k e).1)) hC).mono ?_
  rintro e w' ⟨rfl, h1, h2, h3⟩
  exact ⟨rfl, ⟨hok, owns_kept h.row (fun k hk => h2 k (.inl hk)), h1, fun k hk => ⟨Nat.lt_of_lt_of_le (h.lt k hk).1 h3, (h.lt k hk).2⟩⟩, fun k hk => h2 k (.inr hk), h3⟩
theorem sxw_add {w W : World} {t : Nat} {v : Value} {L : List (List UInt8)} {P : List (Nat × List UInt8)} {fs : List Nd} {B : Nat → Prop} (h : SxW w W t v L P fs B) (h60 : P.length ≤ 60) (hn : ∀ j, (hj : j < P.length) → P[j].2 ≠ []) (s : ByteArray) (p : List UInt8) (hz : s.size ≤ 16777216) (hs : splitL (ofS s) = some [p]) (hp : p ≠ []) (hx : ∀ x ∈ P, x.2 ≠ p) :
    Calls Tryz.prog 12 #[ptrV t, callV 1 s ⟨#[]⟩ 0 0 (.slice none 0 0)] W fun e w' => e = .returned (errV 0) ∧ SxW w w' t v L (P ++ [(fs.length + 1, p)]) (fs ++ [newF]) B ∧ (∀ k, B k → w'.heap[k]? = W.heap[k]?) ∧ W.heap.size ≤ w'.heap.size :=
  sxw_do h (sx_ok_add h.ok h60 hx) (fun Ls hT => by
    have := doo_create W t _ Ls hT (sxS_ok h.ok) s ⟨#[]⟩ 0 0 none 0 0 hz
    rw [sx_enter_add h60 hn hs hp hx] at this
    exact this)
theorem sxw_set {w W : World} {t : Nat} {v : Value} {L : List (List UInt8)} {P : List (Nat × List UInt8)} {fs : List Nd} {B : Nat → Prop} (h : SxW w W t v L P fs B) {i : Nat} (hi : i < P.length) (hg : P[i].2 = []) (hn : ∀ j, (hj : j < i) → P[j].2 ≠ []) (s : ByteArray) (p : List UInt8) (hz : s.size ≤ 16777216) (hs : splitL (ofS s) = some [p]) (hp : p ≠ []) (hx : ∀ x ∈ P, x.2 ≠ p) :
    Calls Tryz.prog 12 #[ptrV t, callV 1 s ⟨#[]⟩ 0 0 (.slice none 0 0)] W fun e w' => e = .returned (errV 0) ∧ SxW w w' t v L (P.set i (fs.length + 1, p)) (fs ++ [newF]) B ∧ (∀ k, B k → w'.heap[k]? = W.heap[k]?) ∧ W.heap.size ≤ w'.heap.size :=
  sxw_do h (sx_ok_set h.ok i hx) (fun Ls hT => by
    have := doo_create W t _ Ls hT (sxS_ok h.ok) s ⟨#[]⟩ 0 0 none 0 0 hz
    rw [sx_enter_set h.ok hi hg hn hs hp hx] at this
    exact this)
theorem sxw_gone {w W : World} {t : Nat} {v : Value} {L : List (List UInt8)} {P : List (Nat × List UInt8)} {fs : List Nd} {B : Nat → Prop} (h : SxW w W t v L P fs B) {i : Nat} (hi : i < P.length) (hp : P[i].2 ≠ []) (hl : P[i].2.length ≤ 1000) (s : ByteArray) (hz : s.size ≤ 16777216) (hs : splitL (ofS s) = some [P[i].2]) :
    Calls Tryz.prog 12 #[ptrV t, callV 4 s ⟨#[]⟩ 0 0 (.slice none 0 0)] W fun e w' => e = .returned (errV 0) ∧ SxW w w' t v L (P.set i (P[i].1, [])) (sxGone fs P[i].1) B ∧ (∀ k, B k → w'.heap[k]? = W.heap[k]?) ∧ W.heap.size ≤ w'.heap.size :=
  sxw_do h (sx_ok_gone h.ok hi) (fun Ls hT => by
    have hj := h.ok.lt _ (List.getElem_mem hi)
    have hf := sx_file h.ok hi hp (.dir 2 (1024 * (sxZ P.length : Int)) (sxS P))
    have hlen : P[i].1 < (sxT P fs).nodes.length := by unfold sxT; simp; omega
    refine doo_unlink W t _ Ls hT s ⟨#[]⟩ 0 0 none 0 0 hz 0 P[i].2 P[i].1 (sx_named h.ok hi hp hs) (by unfold sxT; simp) rfl (sx_look h.ok hi hp) hlen (by unfold sxT; rw [hf]; rfl) hl _ (Hid.mk (fun X hX => ?_))
    have hm : nodeAt ((sxT P fs).nodes.modify 0 (fun x => x.del P[i].2)) P[i].1 = newF := by
      unfold sxT
      simp only [List.modify_zero_cons]
      exact sx_file h.ok hi hp _
    have := lose_last X t _ Ls hX (del_ok (sxS_ok h.ok) 0 P[i].2) 0 P[i].1 (mkS P[i].2) (by simpa using hlen) (by simp only [hm]; rfl) (by simp only [hm]; decide +kernel)
    rw [sx_lose h.ok hi hp] at this
    exact this)
theorem sxw_stat {w W : World} {t : Nat} {v : Value} {L : List (List UInt8)} {P : List (Nat × List UInt8)} {fs : List Nd} {B : Nat → Prop} (h : SxW w W t v L P fs B) :
    Calls Tryz.prog 12 #[ptrV t, callV 10 ⟨#[47]⟩ ⟨#[]⟩ 0 0 (.slice none 0 0)] W fun e w' => e = .returned (.agg #[.int .i64 0, .slice none 0 0, .int .i64 2, .int .i64 (1024 * (sxZ P.length : Int)), .int .i64 2, .slice none 0 0, .int .i64 0]) ∧ SxW w w' t v L P fs B ∧ (∀ k, B k → w'.heap[k]? = W.heap[k]?) ∧ W.heap.size ≤ w'.heap.size :=
  sxw_do h h.ok (fun Ls hT => doo_stat W t _ Ls hT ⟨#[47]⟩ ⟨#[]⟩ 0 0 none 0 0 (by decide) 0 2 _ 2 (sx_stat P fs))
theorem sxw_list {w W : World} {t : Nat} {v : Value} {L : List (List UInt8)} {P : List (Nat × List UInt8)} {fs : List Nd} {B : Nat → Prop} (h : SxW w W t v L P fs B) :
    Calls Tryz.prog 12 #[ptrV t, callV 11 ⟨#[47]⟩ ⟨#[]⟩ 0 0 (.slice none 0 0)] W fun e w' => ∃ ao c, e = .returned (.agg #[.int .i64 0, .slice none 0 0, .int .i64 0, .int .i64 0, .int .i64 0, .slice ao (listL (sxS P)).length c, .int .i64 0]) ∧ SAt w' ao (listL (sxS P)).length (listL (sxS P)) ∧ (listL (sxS P)).length ≤ c ∧ c ≤ 9223372036854775807 ∧ SxW w w' t v L P fs (fun k => B k ∨ ∃ a, ao = some a ∧ 0 < (listL (sxS P)).length ∧ k = a.block) ∧ (∀ k, B k → w'.heap[k]? = W.heap[k]?) ∧ W.heap.size ≤ w'.heap.size := by
  obtain ⟨hO, Ls, hT, hf⟩ := h.own
  have hkd : (nodeAt (sxT P fs).nodes 0).isDir = true := rfl
  have hsl : (nodeAt (sxT P fs).nodes 0).slots.length ≤ 16777216 := by
    show (sxS P).length ≤ _
    have := h.ok.len
    rw [sxS_len]
    unfold sxZ
    omega
  refine (do_list W t (sxT P fs) Ls ⟨#[47]⟩ ⟨#[]⟩ 0 0 none 0 0 0 0 0 0 0 (fun x y X => NamesQ (W.heap.size + 2) (listL (sxS P)) x y X ∧ TrAt X t (sxT P fs) Ls) (fun k hk => hT.lt k hk) (fun x y W1 W2 hh ho => ?_) (Hid.mk (fun X hB hsz => (list_dir X t (sxT P fs) Ls (hT.below rfl hB) 11 ⟨#[47]⟩ ⟨#[]⟩ 0 0 none 0 0 (by decide) 0 (sx_node P fs) hkd hsl).mono (fun e w' hh => ?_)))).mono ?_
  · obtain ⟨⟨h1, ao, c, h2, h3, h4, h5, h6⟩, h7⟩ := hh
    refine ⟨⟨h1, ao, c, h2, h3.only ho (fun a ha _ e => by have := h4 a ha; omega), h4, h5, h6⟩, h7.kept (fun k hk => ho.block k (h7.lt k hk) (fun e => by have := hT.lt k hk; omega))⟩
  · obtain ⟨ao, n, c, h1, h2, h3, h4, h5, h6, h7⟩ := hh
    subst h2
    exact ⟨none, 0, 0, ao, _, c, h1, Step.still (hT.below rfl hB) (fun k hk => hk) h7, ⟨rfl, ao, c, rfl, h3, fun a ha => by have := h4 a ha; omega, h5, h6⟩, (hT.below rfl hB).below rfl h7⟩
  · rintro e w' ⟨a1, n1, c1, a5, n5, c5, rfl, hst, ⟨h1, ao, c, h2, h3, h4, h5, h6⟩, h7⟩
    cases h1; cases h2
    have hk : ∀ k, k < W.heap.size → k ∉ feet t Ls → w'.heap[k]? = W.heap[k]? := fun k h1 h2 => hst.only.block k h1 h2
    have hB : ∀ k, (v.ownBlock = some k ∨ B k) → k ∉ feet t Ls := fun k h1 h2 => (hf k h2).2 h1
    refine ⟨_, _, rfl, h3, h5, h6, ⟨h.ok, owns_kept h.row (fun k e => hk k (h.row.lt k e).2 (hB k (.inl e))), ⟨?_, Ls, h7, fun k hkf => ⟨(hf k hkf).1, ?_⟩⟩, ?_⟩, fun k e => hk k (h.lt k e).1 (hB k (.inr e)), hst.only.size⟩
    · exact ((Only.of_below (S := fun _ => False) hO (fun k h1 h2 => by omega)).trans hst.only (fun i hi => .inr (hf i hi).1)).below (Nat.le_refl _) (fun _ h => h.elim)
    · rintro (e | e | ⟨a, ha, -, e⟩)
      · exact (hf k hkf).2 (.inl e)
      · exact (hf k hkf).2 (.inr e)
      · have := h4 a ha; have := hT.lt k hkf; omega
    · rintro k (e | ⟨a, ha, hn, e⟩)
      · exact ⟨Nat.lt_of_lt_of_le (h.lt k e).1 hst.only.size, (h.lt k e).2⟩
      · obtain ⟨a', ea, hlt, -⟩ := h3.2 hn
        rw [ha] at ea
        cases ea
        refine ⟨by omega, fun e2 => ?_⟩
        have := (h.row.lt k e2).2
        have := h4 a ha
        omega
/-- append(names, p). -/
theorem sxw_append {w W : World} {t : Nat} {v : Value} {L : List (List UInt8)} {P : List (Nat × List UInt8)} {fs : List Nd} {B : Nat → Prop} (h : SxW w W t v L P fs B) (p : List UInt8) (hn : L.length ≤ 16777216) :
    ∃ v' W', (Builtin.append_ #[30, 30] 30 #[v, .slice (some ⟨W.heap.size, 0, none⟩) 1 1]).run Tryz.prog (W.alloc (.cells #[strV p] 9)) = .ok v' W' ∧ SxW w W' t v' (L ++ [p]) P fs B ∧ (∀ k, B k → W'.heap[k]? = W.heap[k]?) ∧ W.heap.size ≤ W'.heap.size := by
  obtain ⟨i0, hi, hz0, hz1, hz2⟩ := info9p
  have hnew := blk_new W (.cells #[strV p] 9)
  obtain ⟨hO, Ls, hT, hf⟩ := h.own
  have hsz := hO.size
  obtain ⟨g, cap, W3, hr, hown3, hg3, hg, hlt⟩ := run_append_lies (P := Tryz.prog) (W.alloc (.cells #[strV p] 9)) 30 30 w.heap.size 9 i0 (.string ⟨#[]⟩) 1 16 Tryz.underlying30 hi hz0 hz1 hz2 rfl (by decide) v L.length (Sy L) (h.row.alloc _) ⟨W.heap.size, 0, none⟩ 1 1 [strV p] rfl (fun j u hj => by
    match j, hj with
    | 0, hj => cases hj; rw [add_at, blk_cell hnew]; rfl) (fun u hu => by rw [List.mem_singleton.1 hu]; rfl) (by omega) (by unfold maxLen; omega) (by omega) (by simp; omega) _ rfl
  have e : Sy L ++ [strV p] = Sy (L ++ [p]) := by simp [Sy]
  rw [e] at hown3
  have ho : Only (fun k => v.ownBlock = some k) W W3 := ((Only.refl _ W).alloc _).grown hg3 (fun k e => .inl e)
  rw [World.size_alloc] at hg
  have hk : ∀ k, k < W.heap.size → v.ownBlock ≠ some k → W3.heap[k]? = W.heap[k]? := fun k h1 h2 => ho.block k h1 h2
  refine ⟨_, W3, hr, ⟨h.ok, by rw [List.length_append, List.length_singleton]; exact hown3, ⟨?_, Ls, hT.kept (fun k hkf => hk k (hT.lt k hkf) (fun e => (hf k hkf).2 (.inl e))), fun k hkf => ⟨(hf k hkf).1, ?_⟩⟩, fun k e => ⟨Nat.lt_of_lt_of_le (h.lt k e).1 ho.size, ?_⟩⟩, fun k e => hk k (h.lt k e).1 (h.lt k e).2, ho.size⟩
  · exact hO.trans (ho.below hO.size (fun k e => (h.row.lt k e).1))
  · rintro (e | e)
    · have hgk : g = k := by simpa [Value.ownBlock] using e
      subst hgk
      rcases hg with hg | hg
      · exact (hf _ hkf).2 (.inl hg)
      · have := hT.lt _ hkf; omega
    · exact (hf k hkf).2 (.inr e)
  · intro e2
    have hgk : g = k := by simpa [Value.ownBlock] using e2
    subst hgk
    rcases hg with hg | hg
    · exact (h.lt _ e).2 hg
    · have := (h.lt _ e).1; omega
/-- names[i] = q. -/
theorem sxw_store {w W : World} {t g c : Nat} {L : List (List UInt8)} {P : List (Nat × List UInt8)} {fs : List Nd} {B : Nat → Prop} (h : SxW w W t (.slice (some ⟨g, 0, none⟩) L.length c) L P fs B) (i : Nat) (q : List UInt8) :
    SxW w (W.setCell ⟨g, i, none⟩ (strV q)) t (.slice (some ⟨g, 0, none⟩) L.length c) (L.set i q) P fs B ∧ ∀ k, B k → (W.setCell ⟨g, i, none⟩ (strV q)).heap[k]? = W.heap[k]? := by
  obtain ⟨hO, Ls, hT, hf⟩ := h.own
  have ho : Only (fun k => k = g) W (W.setCell ⟨g, i, none⟩ (strV q)) := (Only.refl (fun k => k = g) W).setCell (p := ⟨g, i, none⟩) (.inl rfl) _
  have hb : ∀ k, k = g → Value.ownBlock (.slice (some ⟨g, 0, none⟩) L.length c) = some k := fun k e => by rw [e]; rfl
  refine ⟨⟨h.ok, ?_, ⟨?_, Ls, hT.kept (fun k hkf => ho.block k (hT.lt k hkf) (fun e => (hf k hkf).2 (.inl (hb k e)))), hf⟩, fun k e => ⟨Nat.lt_of_lt_of_le (h.lt k e).1 ho.size, (h.lt k e).2⟩⟩, fun k e => ho.block k (h.lt k e).1 (fun e2 => (h.lt k e).2 (hb k e2))⟩
  · have := (h.row.stored i (strV q)).1
    rw [List.length_set]
    rw [show (Sy L).set i (strV q) = Sy (L.set i q) by simp [Sy, List.map_set]] at this
    exact this
  · exact hO.trans (ho.below hO.size (fun k e => (h.row.lt k (hb k e)).1))
theorem SxW.place {w W : World} {t : Nat} {v : Value} {L : List (List UInt8)} {P : List (Nat × List UInt8)} {fs : List Nd} {B : Nat → Prop} (h : SxW w W t v L P fs B) : ∃ ao c, v = .slice ao L.length c ∧ ∀ k, k < L.length → ∃ g, ao = some ⟨g, 0, none⟩ ∧ W.cell? ⟨g, k, none⟩ = some (strV (L.getD k [])) ∧ W.frozen? ⟨g, k, none⟩ = false := by
  rcases h.row.2 with ⟨hn, h0⟩ | ⟨g, cap, cur, hv, h1, h2, h3⟩
  · exact ⟨none, 0, by rw [hn, h0], fun k hk => by omega⟩
  · refine ⟨_, cap, hv, fun k hk => ⟨g, rfl, ?_, blk_free h2 k⟩⟩
    have hr := h.row
    rw [hv] at hr
    rw [hr.cellAt k (by omega), Sy_get L k hk]
end Go.Proofs.YtehaoeclnmelhabGreat
namespace Go.Proofs.YtehaoeclnmelhabGreat
open Go Go.Proofs Go.RowKit Go.Shelf Go.Sort

def sxName (k : Nat) : List UInt8 := [102, UInt8.ofNat (48 + k / 10), UInt8.ofNat (48 + k % 10)]
def sxNew : List UInt8 := [110, 101, 119]
theorem sxName_split : ∀ k, k < 60 → splitL (47 :: sxName k) = some [sxName k] := by decide +kernel
theorem sxNew_split : splitL (47 :: sxNew) = some [sxNew] := by decide +kernel
theorem sxName_inj : ∀ i, i < 60 → ∀ j, j < 60 → sxName i = sxName j → i = j := by decide +kernel
theorem sxName_new (k : Nat) : sxName k ≠ sxNew := by unfold sxName sxNew; simp
theorem sxName_ne (k : Nat) : sxName k ≠ [] := by unfold sxName; simp
def sxP (k : Nat) : List (Nat × List UInt8) := (List.range k).map (fun i => (i + 1, sxName i))
theorem sxP_len (k : Nat) : (sxP k).length = k := by simp [sxP]
theorem sxP_succ (k : Nat) : sxP (k + 1) = sxP k ++ [(k + 1, sxName k)] := by simp [sxP, List.range_succ]
theorem sxP_mem {k : Nat} {x : Nat × List UInt8} (h : x ∈ sxP k) : ∃ i, i < k ∧ x = (i + 1, sxName i) := by
  obtain ⟨i, hi, e⟩ := List.mem_map.1 h
  exact ⟨i, List.mem_range.1 hi, e.symm⟩
theorem sx_slash (p : List UInt8) : (⟨#[47]⟩ : ByteArray) ++ mkS p = mkS (47 :: p) := by
  apply ofS_inj
  rw [of_mk]
  show ((⟨#[47]⟩ : ByteArray) ++ mkS p).data.toList = _
  rw [ByteArray.data_append]
  simp [mkS]
/-- Every name is one that was made, or gone. -/
def sxGood (P : List (Nat × List UInt8)) : Prop := ∀ x ∈ P, x.2 = [] ∨ ∃ k, k < 60 ∧ x.2 = sxName k
theorem sxP_good {k : Nat} (h : k ≤ 60) : sxGood (sxP k) := fun x hx => by
  obtain ⟨i, hi, rfl⟩ := sxP_mem hx
  exact .inr ⟨i, by omega, rfl⟩
theorem sxGood.gone {P : List (Nat × List UInt8)} (h : sxGood P) (i j : Nat) : sxGood (P.set i (j, [])) := fun x hx => by
  rcases List.mem_or_eq_of_mem_set hx with hx | rfl
  · exact h x hx
  · exact .inl rfl
theorem sxGood.new {P : List (Nat × List UInt8)} (h : sxGood P) : ∀ x ∈ P, x.2 ≠ sxNew := fun x hx e => by
  rcases h x hx with h | ⟨k, _, h⟩
  · rw [h] at e; cases e
  · rw [h] at e; exact sxName_new k e
theorem sxw_first {w W : World} {t : Nat} {v : Value} {L : List (List UInt8)} {k : Nat} {B : Nat → Prop} (hk : k < 60) (h : SxW w W t v L (sxP k) (List.replicate k newF) B) :
    Calls Tryz.prog 12 #[ptrV t, callV 1 (mkS (47 :: sxName k)) ⟨#[]⟩ 0 0 (.slice none 0 0)] W fun e w' => e = .returned (errV 0) ∧ SxW w w' t v L (sxP (k + 1)) (List.replicate (k + 1) newF) B ∧ (∀ k, B k → w'.heap[k]? = W.heap[k]?) ∧ W.heap.size ≤ w'.heap.size := by
  have := sxw_add h (by rw [sxP_len]; omega) (fun j hj => by simp [sxP, sxName]) (mkS (47 :: sxName k)) (sxName k) (by rw [mkS_size]; simp [sxName]) (by rw [of_mk]; exact sxName_split k hk) (sxName_ne k) (fun x hx e => by
    obtain ⟨i, hi, rfl⟩ := sxP_mem hx
    have := sxName_inj i (by omega) k hk e
    omega)
  rw [List.length_replicate, ← sxP_succ, ← List.replicate_succ'] at this
  exact this
theorem sxw_drop {w W : World} {t : Nat} {v : Value} {L : List (List UInt8)} {P : List (Nat × List UInt8)} {fs : List Nd} {B : Nat → Prop} (hg : sxGood P) (h : SxW w W t v L P fs B) {i : Nat} (hi : i < P.length) (hp : P[i].2 ≠ []) :
    Calls Tryz.prog 12 #[ptrV t, callV 4 (mkS (47 :: P[i].2)) ⟨#[]⟩ 0 0 (.slice none 0 0)] W fun e w' => e = .returned (errV 0) ∧ SxW w w' t v L (P.set i (P[i].1, [])) (sxGone fs P[i].1) B ∧ (∀ k, B k → w'.heap[k]? = W.heap[k]?) ∧ W.heap.size ≤ w'.heap.size := by
  rcases hg _ (List.getElem_mem hi) with h0 | ⟨k, hk, e⟩
  · exact absurd h0 hp
  · have hl : P[i].2.length = 3 := by rw [e]; rfl
    exact sxw_gone h hi hp (by omega) _ (by rw [mkS_size, List.length_cons]; omega) (by rw [of_mk, e]; exact sxName_split k hk)
theorem sxw_drop2 {w W : World} {t : Nat} {v : Value} {L : List (List UInt8)} {P : List (Nat × List UInt8)} {fs : List Nd} {B : Nat → Prop} (hg : sxGood P) (h : SxW w W t v L P fs B) {m : Nat} {q : List UInt8} (hm : ∃ h : m < P.length, P[m].2 = q) (hq : q ≠ []) :
    Calls Tryz.prog 12 #[ptrV t, callV 4 (mkS (47 :: q)) ⟨#[]⟩ 0 0 (.slice none 0 0)] W fun e w' => e = .returned (errV 0) ∧ ∃ j fs', SxW w w' t v L (P.set m (j, [])) fs' B := by
  obtain ⟨hi, rfl⟩ := hm
  exact (sxw_drop hg h hi hq).mono (fun e w' hh => ⟨hh.1, _, _, hh.2.1⟩)
theorem sxw_store2 {w W : World} {t g c n : Nat} {L : List (List UInt8)} {P : List (Nat × List UInt8)} {fs : List Nd} {B : Nat → Prop} (hn : L.length = n) (h : SxW w W t (.slice (some ⟨g, 0, none⟩) n c) L P fs B) (i : Nat) (q : List UInt8) :
    SxW w (W.setCell ⟨g, i, none⟩ (.string (mkS q))) t (.slice (some ⟨g, 0, none⟩) n c) (L.set i q) P fs B ∧ ∀ k, B k → (W.setCell ⟨g, i, none⟩ (.string (mkS q))).heap[k]? = W.heap[k]? := by
  subst hn
  exact sxw_store h i q
theorem sxw_cell {w W : World} {t g c n : Nat} {L : List (List UInt8)} {P : List (Nat × List UInt8)} {fs : List Nd} {B : Nat → Prop} (h : SxW w W t (.slice (some ⟨g, 0, none⟩) n c) L P fs B) (i : Nat) (hi : i < L.length) : W.cell? ⟨g, i, none⟩ = some (.string (mkS (L.getD i []))) ∧ W.frozen? ⟨g, i, none⟩ = false := by
  obtain ⟨ao', c', ev, hpl⟩ := h.place
  obtain ⟨g', eg, hc, hfz⟩ := hpl i hi
  subst eg
  cases ev
  exact ⟨hc, hfz⟩
theorem sx_set_same {L : List (List UInt8)} {m : Nat} (hm : m < L.length) (h : L.getD m [] = []) : L.set m [] = L := by
  have e : L[m] = [] := by simpa [List.getD, hm] using h
  conv => lhs; rw [← e]
  exact List.set_getElem_self hm
/-- The pairs when the new name has come. -/
def sxMore (P : List (Nat × List UInt8)) (j : Nat) : List (Nat × List UInt8) := if P.findIdx (fun x => decide (x.2 = [])) < P.length then P.set (P.findIdx (fun x => decide (x.2 = []))) (j, sxNew) else P ++ [(j, sxNew)]
theorem sxw_new {w W : World} {t : Nat} {v : Value} {L : List (List UInt8)} {P : List (Nat × List UInt8)} {fs : List Nd} {B : Nat → Prop} (hg : sxGood P) (h60 : P.length ≤ 60) (h : SxW w W t v L P fs B) :
    Calls Tryz.prog 12 #[ptrV t, callV 1 (mkS (47 :: sxNew)) ⟨#[]⟩ 0 0 (.slice none 0 0)] W fun e w' => e = .returned (errV 0) ∧ SxW w w' t v L (sxMore P (fs.length + 1)) (fs ++ [newF]) B ∧ (∀ k, B k → w'.heap[k]? = W.heap[k]?) ∧ W.heap.size ≤ w'.heap.size := by
  unfold sxMore
  split
  · rename_i hi
    refine sxw_set h hi ?_ (fun j hj => ?_) (mkS (47 :: sxNew)) sxNew (by rw [mkS_size]; simp [sxNew]) (by rw [of_mk]; exact sxNew_split) (by simp [sxNew]) hg.new
    · have := List.findIdx_getElem (w := hi)
      simpa using this
    · have := List.not_of_lt_findIdx hj
      simpa using this
  · rename_i hi
    refine sxw_add h h60 (fun j hj => ?_) (mkS (47 :: sxNew)) sxNew (by rw [mkS_size]; simp [sxNew]) (by rw [of_mk]; exact sxNew_split) (by simp [sxNew]) hg.new
    have := List.not_of_lt_findIdx (p := fun x : Nat × List UInt8 => decide (x.2 = [])) (xs := P) (i := j) (by omega)
    simpa using this
/-- The first gone name. -/
theorem sx_first {P : List (Nat × List UInt8)} {i : Nat} (hi : i < P.length) (hg : P[i].2 = []) (hn : ∀ j, (hj : j < i) → P[j].2 ≠ []) (j : Nat) : sxMore P j = P.set i (j, sxNew) := by
  have e : P.findIdx (fun x => decide (x.2 = [])) = i := by
    rw [List.findIdx_eq hi]
    exact ⟨by simpa using hg, fun j hj => by simpa using hn j hj⟩
  unfold sxMore
  rw [e, if_pos hi]
theorem sx_none {P : List (Nat × List UInt8)} (hn : ∀ j, (hj : j < P.length) → P[j].2 ≠ []) (j : Nat) : sxMore P j = P ++ [(j, sxNew)] := by
  have e : ¬ P.findIdx (fun x => decide (x.2 = [])) < P.length := by
    intro hi
    have := List.findIdx_getElem (w := hi)
    exact hn _ hi (by simpa using this)
  unfold sxMore
  rw [if_neg e]
/-- How many names stand among the first. -/
def sxCnt (L : List (List UInt8)) (k : Nat) : Nat := (L.take k).countP (fun p => decide (p ≠ []))
theorem sxCnt_step {L : List (List UInt8)} {k : Nat} (hk : k < L.length) : sxCnt L (k + 1) = sxCnt L k + (if L.getD k [] = [] then 0 else 1) := by
  unfold sxCnt
  rw [List.take_succ_eq_append_getElem hk, List.countP_append]
  have e : L.getD k [] = L[k] := by simp [List.getD, List.getElem?_eq_getElem hk]
  rw [e]
  by_cases h : L[k] = [] <;> simp [h]
theorem sxCnt_all (L : List (List UInt8)) : sxCnt L L.length = (L.filter (fun p => decide (p ≠ []))).length := by
  unfold sxCnt
  rw [List.take_length, List.countP_eq_length_filter]
theorem sxCnt_at {L : List (List UInt8)} {k : Nat} (hk : k < L.length) (h : L.getD k [] ≠ []) : sxCnt L k < (L.filter (fun p => decide (p ≠ []))).length ∧ (L.filter (fun p => decide (p ≠ []))).getD (sxCnt L k) [] = L.getD k [] := by
  have e : L.getD k [] = L[k] := by simp [List.getD, List.getElem?_eq_getElem hk]
  rw [e] at h ⊢
  have e2 : L = L.take k ++ L[k] :: L.drop (k + 1) := by simp
  have e3 : L.filter (fun p => decide (p ≠ [])) = (L.take k).filter (fun p => decide (p ≠ [])) ++ L[k] :: (L.drop (k + 1)).filter (fun p => decide (p ≠ [])) := by
    conv => lhs; rw [e2]
    rw [List.filter_append, List.filter_cons, if_pos (by simpa using h)]
  have e4 : sxCnt L k = ((L.take k).filter (fun p => decide (p ≠ []))).length := by unfold sxCnt; rw [List.countP_eq_length_filter]
  rw [e3, e4]
  refine ⟨by simp, ?_⟩
  rw [List.getD, List.getElem?_append_right (Nat.le_refl _)]
  simp
/-- An operation of a quiet region whose outcome is known. -/
theorem quietL_known {P : Program} {ops : Array Oper} {C : World → Prop} {Q : Act → Prop} {o : Oper} {rest : List Oper} {a : Act} (v : Value) (hw : Region.wanted o (yielded ops a.tmps) = true) (h : ∀ w, (execOp a.eval o).run P w = .ok (.value v) w) (hk : wpQuiet P ops C Q rest (a.put o.dst v)) : wpQuiet P ops C Q (o :: rest) a :=
  BigFrame.wpQuiet_want hw (fun _ hK => ⟨v, fun w _ => by unfold Oper.quietAt; rw [h w]; exact ⟨rfl, rfl⟩, hK _ hk⟩)
def sxDig (q : Nat) : ByteArray := ⟨#[UInt8.ofNat (48 + q)]⟩
set_option maxRecDepth 100000 in
theorem exec_dig {ev : Operand → Value} {oi : Oper} {x y : Operand} {w : World} (q : Nat) (hq : q < 10) (ho : oi.op = .slice 9 (.const (.string ⟨#[48, 49, 50, 51, 52, 53, 54, 55, 56, 57]⟩)) (some x) (some y) none) (hv : ev (.const (.string ⟨#[48, 49, 50, 51, 52, 53, 54, 55, 56, 57]⟩)) = .string ⟨#[48, 49, 50, 51, 52, 53, 54, 55, 56, 57]⟩) (hx : ev x = .int .i64 q) (hy : ev y = .int .i64 ((q : Int) + 1)) :
    (execOp ev oi).run Tryz.prog w = .ok (.value (.string (sxDig q))) w := by
  unfold execOp
  rw [ho]
  simp only [hx, hy, hv, Option.map]
  match q, hq with
  | 0, _ => rfl
  | 1, _ => rfl
  | 2, _ => rfl
  | 3, _ => rfl
  | 4, _ => rfl
  | 5, _ => rfl
  | 6, _ => rfl
  | 7, _ => rfl
  | 8, _ => rfl
  | 9, _ => rfl
theorem exec_cat {ev : Operand → Value} {oi : Oper} {x y : Operand} {u : TypeId} {w : World} (s t : ByteArray) (h : s.size + t.size ≤ 9223372036854775807) (ho : oi.op = .binOp .add 9 x y u) (hx : ev x = .string s) (hy : ev y = .string t) : (execOp ev oi).run Tryz.prog w = .ok (.value (.string (s ++ t))) w := by
  unfold execOp
  rw [ho]
  simp only [hx, hy]
  go_simp
theorem exec_quo {ev : Operand → Value} {oi : Oper} {x y : Operand} {u : TypeId} {w : World} (k : Nat) (hk : k < 60) (ho : oi.op = .binOp .quo 3 x y u) (hx : ev x = .int .i64 k) (hy : ev y = .int .i64 10) : (execOp ev oi).run Tryz.prog w = .ok (.value (.int .i64 ((k / 10 : Nat) : Int))) w := by
  unfold execOp
  rw [ho]
  simp only [hx, hy]
  go_simp
  rw [IntKind.wrap_i64]
  omega
theorem exec_rem {ev : Operand → Value} {oi : Oper} {x y : Operand} {u : TypeId} {w : World} (k : Nat) (ho : oi.op = .binOp .rem 3 x y u) (hx : ev x = .int .i64 k) (hy : ev y = .int .i64 10) : (execOp ev oi).run Tryz.prog w = .ok (.value (.int .i64 ((k % 10 : Nat) : Int))) w := by
  unfold execOp
  rw [ho]
  simp only [hx, hy]
  go_simp
  exact Int.tmod_eq_emod_of_nonneg (by omega)
theorem exec_inc {ev : Operand → Value} {oi : Oper} {x y : Operand} {u : TypeId} {w : World} (q : Nat) (hq : q < 60) (ho : oi.op = .binOp .add 3 x y u) (hx : ev x = .int .i64 q) (hy : ev y = .int .i64 1) : (execOp ev oi).run Tryz.prog w = .ok (.value (.int .i64 ((q : Int) + 1))) w := by
  unfold execOp
  rw [ho]
  simp only [hx, hy]
  go_simp
  rw [IntKind.wrap_i64]
  omega
theorem sx_cat (k : Nat) : ((⟨#[102]⟩ : ByteArray) ++ sxDig (k / 10)) ++ sxDig (k % 10) = mkS (sxName k) := by
  apply ofS_inj
  rw [of_mk]
  show (((⟨#[102]⟩ : ByteArray) ++ sxDig (k / 10)) ++ sxDig (k % 10)).data.toList = _
  rw [ByteArray.data_append, ByteArray.data_append]
  simp [sxDig, sxName]
theorem SAt.kept2 {W W' : World} {ao : Option Addr} {n : Nat} {L : List (List UInt8)} (h : SAt W ao n L) (hk : ∀ a, ao = some a → 0 < n → W'.heap[a.block]? = W.heap[a.block]?) (hs : W.heap.size ≤ W'.heap.size) : SAt W' ao n L := by
  refine ⟨h.1, fun hn => ?_⟩
  obtain ⟨a, e, hlt, hc⟩ := h.2 hn
  refine ⟨a, e, Nat.lt_of_lt_of_le hlt hs, fun i hi => ?_⟩
  rw [World.cell?_of_block (w := W) (by rw [add_block]; exact hk a e hn)]
  exact hc i hi
theorem sx_filter_le (L : List (List UInt8)) : (L.filter (fun p => decide (p ≠ []))).length ≤ L.length := List.length_filter_le _ _
/-- The end of TreeSlots: all lies still. -/
structure SxEnd (w W : World) (b6 b7 b9 : Nat) (ao1 : Option Addr) (n1 : Nat) (L : List (List UInt8)) (ao2 : Option Addr) (n2 c2 : Nat) (F : List (List UInt8)) (z : Int) : Prop where
  below : Below w.heap.size w W
  e6 : W.cell? ⟨b6, 0, none⟩ = some (.int .i64 0)
  e7 : W.cell? ⟨b7, 5, none⟩ = some (.slice ao2 n2 c2)
  e9 : W.cell? ⟨b9, 3, none⟩ = some (.int .i64 z)
  row : ∀ y, y < n1 → ∃ g, ao1 = some ⟨g, 0, none⟩ ∧ W.cell? ⟨g, y, none⟩ = some (.string (mkS (L.getD y [])))
  ans : ∀ y, y < n2 → ∃ a, ao2 = some a ∧ W.cell? (a.add y) = some (.string (mkS (F.getD y [])))
theorem SxEnd.drewN {w W : World} {b6 b7 b9 : Nat} {ao1 : Option Addr} {n1 : Nat} {L : List (List UInt8)} {ao2 : Option Addr} {n2 c2 : Nat} {F : List (List UInt8)} {z : Int} (h : SxEnd w W b6 b7 b9 ao1 n1 L ao2 n2 c2 F z) (d : Nat) : SxEnd w (W.drewN d) b6 b7 b9 ao1 n1 L ao2 n2 c2 F z :=
  ⟨h.below.trans ((below_drewN W d).mono h.below.size), h.e6, h.e7, h.e9, h.row, h.ans⟩
end Go.Proofs.YtehaoeclnmelhabGreat
