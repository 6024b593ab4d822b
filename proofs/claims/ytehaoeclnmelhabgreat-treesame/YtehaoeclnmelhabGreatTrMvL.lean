/-
  Three directories, files in one of them, which is moved to and fro: in lists. (For TreeMoves.)
-/
import Derived.Test.YtehaoeclnmelhabGreatTrAlive
import Derived.Test.YtehaoeclnmelhabGreatLayTop
import Derived.Test.YtehaoeclnmelhabGreatTrMove2
namespace Go.Proofs.YtehaoeclnmelhabGreat
open Go Go.Proofs Go.RowKit Go.Shelf Go.Sort

/-- The slots of the directory that is moved. -/
def mvD (us : List (List UInt8)) : List Slt := (us.zipIdx 4).map (fun x => some (x.2, x.1)) ++ List.replicate (30 - us.length) none
/-- Before the move. -/
def mvA (us : List (List UInt8)) : Tr := ⟨1, 1, 60, (us.length : Int) + 4, 4, .dir 4 1024 (some (1, [97]) :: some (2, [98]) :: List.replicate 28 none) :: .dir 3 1024 (some (3, [100]) :: List.replicate 29 none) :: .dir 2 1024 (List.replicate 30 none) :: .dir 2 1024 (mvD us) :: List.replicate us.length newF⟩
/-- Behind it. -/
def mvB (us : List (List UInt8)) : Tr := ⟨1, 1, 60, (us.length : Int) + 4, 4, .dir 4 1024 (some (1, [97]) :: some (2, [98]) :: List.replicate 28 none) :: .dir 2 1024 (List.replicate 30 none) :: .dir 3 1024 (some (3, [101]) :: List.replicate 29 none) :: .dir 2 1024 (mvD us) :: List.replicate us.length newF⟩
/-- The two trees on the way to the first. -/
def mv1 : Tr := (enterS (newT 1 1 60) [47, 97] newD).2
def mv2 : Tr := (enterS mv1 [47, 98] newD).2
theorem mv1_err : (enterS (newT 1 1 60) [47, 97] newD).1 = 0 := by decide +kernel
theorem mv2_err : (enterS mv1 [47, 98] newD).1 = 0 := by decide +kernel
theorem mv3_err : (enterS mv2 [47, 97, 47, 100] newD).1 = 0 := by decide +kernel
theorem mv3_is : (enterS mv2 [47, 97, 47, 100] newD).2 = mvA [] := by kernel_rfl
theorem mv1_nodes : mv1.nodes = [.dir 3 1024 (some (1, [97]) :: List.replicate 29 none), newD] := by kernel_rfl
theorem mv2_nodes : mv2.nodes = [.dir 4 1024 (some (1, [97]) :: some (2, [98]) :: List.replicate 28 none), newD, newD] := by kernel_rfl
theorem mv1_ok : ∀ x ∈ mv1.nodes, x.Ok := by
  rw [mv1_nodes]
  intro x hx
  simp only [List.mem_cons, List.not_mem_nil, or_false] at hx
  rcases hx with rfl | rfl
  · exact ⟨by omega, by omega, by simp⟩
  · exact dir_ok
theorem mv2_ok : ∀ x ∈ mv2.nodes, x.Ok := by
  rw [mv2_nodes]
  intro x hx
  simp only [List.mem_cons, List.not_mem_nil, or_false] at hx
  rcases hx with rfl | rfl | rfl
  · exact ⟨by omega, by omega, by simp⟩
  · exact dir_ok
  · exact dir_ok
theorem mvD_len {us : List (List UInt8)} (h : us.length ≤ 30) : (mvD us).length = 30 := by
  simp [mvD]
  omega
theorem mvA_ok {us : List (List UInt8)} (h : us.length ≤ 8) : ∀ x ∈ (mvA us).nodes, x.Ok := by
  intro x hx
  simp only [mvA, List.mem_cons, List.mem_replicate] at hx
  rcases hx with rfl | rfl | rfl | rfl | ⟨_, rfl⟩
  · exact ⟨by omega, by omega, by simp⟩
  · exact ⟨by omega, by omega, by simp⟩
  · exact ⟨by omega, by omega, by simp⟩
  · exact ⟨by omega, by omega, by rw [mvD_len (by omega)]; omega⟩
  · exact file_ok
theorem mvB_ok {us : List (List UInt8)} (h : us.length ≤ 8) : ∀ x ∈ (mvB us).nodes, x.Ok := by
  intro x hx
  simp only [mvB, List.mem_cons, List.mem_replicate] at hx
  rcases hx with rfl | rfl | rfl | rfl | ⟨_, rfl⟩
  · exact ⟨by omega, by omega, by simp⟩
  · exact ⟨by omega, by omega, by simp⟩
  · exact ⟨by omega, by omega, by simp⟩
  · exact ⟨by omega, by omega, by rw [mvD_len (by omega)]; omega⟩
  · exact file_ok
theorem mv_at {us : List (List UInt8)} {i : Nat} (h : i < us.length) : (mvD us)[i]? = some (some (4 + i, us[i])) := by
  unfold mvD
  rw [List.getElem?_append_left (by simpa using h)]
  simp [h]
theorem mv_behind {us : List (List UInt8)} {i : Nat} {o : Slt} (h : us.length ≤ i) (ho : (mvD us)[i]? = some o) : o = none := by
  unfold mvD at ho
  rw [List.getElem?_append_right (by simpa using h)] at ho
  exact List.eq_of_mem_replicate (List.mem_of_getElem? ho)
theorem mv_look_no {us : List (List UInt8)} {p : List UInt8} (h : p ∉ us) : lookS (mvD us) p = none := by
  have : ∀ o ∈ mvD us, hasB p o = false := by
    intro o ho
    obtain ⟨i, hi⟩ := List.mem_iff_getElem?.1 ho
    by_cases hl : i < us.length
    · rw [mv_at hl] at hi
      cases hi
      simp only [hasB, decide_eq_false_iff_not]
      intro e
      exact h (e ▸ List.getElem_mem hl)
    · rw [mv_behind (by omega) hi]; rfl
  unfold lookS nameAt
  rw [List.findIdx_eq_length_of_false (by simpa using this)]
  simp [List.getD]
theorem mv_look {us : List (List UInt8)} {p : List UInt8} (h : p ∈ us) : ∃ j, lookS (mvD us) p = some j := by
  obtain ⟨i, hi, rfl⟩ := List.mem_iff_getElem.1 h
  have hlt : nameAt (mvD us) us[i] < (mvD us).length := by
    unfold nameAt
    rw [List.findIdx_lt_length]
    exact ⟨_, List.mem_of_getElem? (mv_at hi), by simp [hasB]⟩
  have hyes : hasB us[i] ((mvD us)[nameAt (mvD us) us[i]]) = true := List.findIdx_getElem (w := hlt)
  unfold lookS
  rw [List.getD, List.getElem?_eq_getElem hlt]
  cases hq : (mvD us)[nameAt (mvD us) us[i]] with
  | none => rw [hq] at hyes; cases hyes
  | some q => exact ⟨q.1, rfl⟩
theorem mv_free {us : List (List UInt8)} (h : us.length < 30) : freeAt (mvD us) = us.length := by
  have hl := mvD_len (Nat.le_of_lt h)
  unfold freeAt
  rw [List.findIdx_eq (by omega)]
  refine ⟨?_, fun j hj => ?_⟩
  · have : (mvD us)[us.length]? = some (mvD us)[us.length] := List.getElem?_eq_getElem (by omega)
    rw [mv_behind (Nat.le_refl _) this]
    rfl
  · have : (mvD us)[j]? = some (mvD us)[j] := List.getElem?_eq_getElem (by omega)
    rw [mv_at hj] at this
    rw [← Option.some.inj this]
    rfl
theorem mv_set {us : List (List UInt8)} (h : us.length < 30) (p : List UInt8) : (mvD us).set us.length (some (4 + us.length, p)) = mvD (us ++ [p]) := by
  have e : ∀ n, 30 - us.length = n + 1 → List.replicate (30 - us.length) (none : Slt) = none :: List.replicate (30 - (us.length + 1)) none := fun n hn => by
    rw [hn, show 30 - (us.length + 1) = n by omega, List.replicate_succ]
  unfold mvD
  rw [e (29 - us.length) (by omega), List.set_append_right _ _ (by simp)]
  simp [List.zipIdx_append, Nat.add_comm]
theorem mv_list (us : List (List UInt8)) : (listL (mvD us)).length = us.length := by
  have h1 : ∀ (L : List (List UInt8 × Nat)), List.filterMap (fun o : Slt => o.map (·.2)) (L.map (fun x => some (x.2, x.1))) = L.map (·.1) := fun L => by
    induction L with
    | nil => rfl
    | cons a L ih => simp [ih]
  have h2 : ∀ n, List.filterMap (fun o : Slt => o.map (·.2)) (List.replicate n none) = [] := fun n => by
    induction n with
    | zero => rfl
    | succ n ih => rw [List.replicate_succ, List.filterMap_cons]; exact ih
  unfold listL mvD
  rw [List.filterMap_append, h1, h2]
  simp
theorem mv_inodes : inoI 1 1 60 = 16 := by kernel_rfl
theorem mv_blocks : blkI 1 1 60 = 60 := by kernel_rfl
theorem mv_room0 : roomL newF.nos = 0 := by kernel_rfl
theorem mv_spotA (us : List (List UInt8)) (p : List UInt8) : spotE (mvA us).nodes [[97], [100]] p = (0, some ⟨3, p, lookS (mvD us) p⟩) := rfl
theorem mv_growA {us : List (List UInt8)} (h : us.length < 30) : (nodeAt (mvA us).nodes 3).growth = 0 := by
  have hl := mvD_len (Nat.le_of_lt h)
  have hf := mv_free h
  show (Nd.dir 2 1024 (mvD us)).growth = 0
  unfold Nd.growth Nd.slots
  simp only
  rw [if_pos (by omega)]
theorem mv_enter_old {us : List (List UInt8)} {s p : List UInt8} (hs : splitL s = some [[97], [100], p]) (hp : p ∈ us) : enterS (mvA us) s newF = (11, mvA us) := by
  obtain ⟨j, hj⟩ := mv_look hp
  unfold enterS
  rw [hs]
  simp only [List.dropLast, List.getLastD, mv_spotA]
  simp [List.getLast, hj]
theorem mv_enter_new {us : List (List UInt8)} {s p : List UInt8} (hs : splitL s = some [[97], [100], p]) (hp : p ∉ us) (hn : us.length < 8) : enterS (mvA us) s newF = (0, mvA (us ++ [p])) := by
  have hl := mvD_len (us := us) (by omega)
  have hf := mv_free (us := us) (by omega)
  have hgr := mv_growA (us := us) (by omega)
  have hB : enterB (mvA us) 3 newF = 0 := by unfold enterB; rw [hgr, mv_room0]; unfold w64 wrap64; omega
  have hE : enterE (mvA us) 3 newF = 0 := by
    unfold enterE
    rw [if_neg (by simp [newF, Nd.isDir]), hB]
    have : fitsB (mvA us).G (mvA us).I (mvA us).D (mvA us).inodes (mvA us).blocks 1 0 = true := by
      unfold fitsB
      simp only [mvA, mv_inodes, mv_blocks, w64, Bool.and_eq_true, decide_eq_true_eq]
      unfold wrap64
      omega
    rw [if_pos this]
  have hT : enterT (mvA us) 3 p newF = mvA (us ++ [p]) := by
    unfold enterT
    rw [hB]
    have e1 : w64 ((mvA us).inodes + 1) = (us.length : Int) + 5 := by simp only [mvA, w64]; unfold wrap64; omega
    have e2 : w64 ((mvA us).blocks + 0) = 4 := by simp only [mvA, w64]; unfold wrap64; omega
    rw [e1, e2]
    have e3 : (mvA us).nodes.length = 4 + us.length := by simp [mvA]; omega
    rw [e3]
    have e4 : List.replicate us.length newF ++ [newF] = List.replicate (us.length + 1) newF := by rw [List.replicate_succ']
    have en : ((mvA us).nodes ++ [newF]).modify 3 (fun x => if newF.isDir = true then (x.add p (4 + us.length)).more 1 else x.add p (4 + us.length)) = (mvA (us ++ [p])).nodes := by
      simp only [mvA, List.cons_append, e4, List.modify_succ_cons, List.modify_zero_cons, List.length_append, List.length_singleton]
      congr 4
      simp only [newF, Nd.isDir, Nd.add, Bool.false_eq_true, if_false]
      rw [hf, if_pos (by omega), mv_set (by omega)]
    have ei : (us.length : Int) + 5 = ((us ++ [p]).length : Int) + 4 := by rw [List.length_append]; simp; omega
    rw [en, ei]
    rfl
  unfold enterS
  rw [hs]
  simp [mv_spotA, mv_look_no hp, hE, hT]
/-- The move: there. -/
theorem mv_spot1 (us : List (List UInt8)) : spotE (mvA us).nodes [[97]] [100] = (0, some ⟨1, [100], some 3⟩) := rfl
theorem mv_spot2 (us : List (List UInt8)) : spotE (mvA us).nodes [[98]] [101] = (0, some ⟨2, [101], none⟩) := rfl
theorem mv_spot3 (us : List (List UInt8)) : spotE (mvB us).nodes [[98]] [101] = (0, some ⟨2, [101], some 3⟩) := rfl
theorem mv_spot4 (us : List (List UInt8)) : spotE (mvB us).nodes [[97]] [100] = (0, some ⟨1, [100], none⟩) := rfl
theorem mv_way1 (us : List (List UInt8)) : onWay (mvA us).nodes [[98]] 3 = false := rfl
theorem mv_way2 (us : List (List UInt8)) : onWay (mvB us).nodes [[97]] 3 = false := rfl
theorem mv_statB1 (us : List (List UInt8)) : statV (mvB us).nodes [47, 97] = .agg #[.int .i64 0, .slice none 0 0, .int .i64 2, .int .i64 1024, .int .i64 2, .slice none 0 0, .int .i64 0] := rfl
theorem mv_statB2 (us : List (List UInt8)) : statV (mvB us).nodes [47, 98] = .agg #[.int .i64 0, .slice none 0 0, .int .i64 2, .int .i64 1024, .int .i64 3, .slice none 0 0, .int .i64 0] := rfl
theorem mv_statB3 (us : List (List UInt8)) : statV (mvB us).nodes [47, 97, 47, 100] = errV 10 := rfl
theorem mv_nodeB (us : List (List UInt8)) : nodeE (mvB us).nodes [47, 98, 47, 101] = (some 3, 0) := rfl
theorem mv_sp1 : splitL [47, 97, 47, 100] = some ([[97]] ++ [[100]]) := by decide
theorem mv_sp2 : splitL [47, 98, 47, 101] = some ([[98]] ++ [[101]]) := by decide
/-- There is room for it, and what a move makes of the lists. -/
theorem mv_growB (us : List (List UInt8)) : (nodeAt (mvA us).nodes 2).growth = 0 ∧ (nodeAt (mvB us).nodes 1).growth = 0 := by
  constructor <;> (show (Nd.dir 2 1024 (List.replicate 30 none)).growth = 0; kernel_rfl)
theorem mv_fitA {us : List (List UInt8)} (h : us.length ≤ 8) : fitsB (mvA us).G (mvA us).I (mvA us).D (mvA us).inodes (mvA us).blocks 0 (nodeAt (mvA us).nodes 2).growth = true := by
  rw [(mv_growB us).1]
  unfold fitsB
  simp only [mvA, mv_inodes, mv_blocks, w64, Bool.and_eq_true, decide_eq_true_eq]
  unfold wrap64
  omega
theorem mv_fitB {us : List (List UInt8)} (h : us.length ≤ 8) : fitsB (mvB us).G (mvB us).I (mvB us).D (mvB us).inodes (mvB us).blocks 0 (nodeAt (mvB us).nodes 1).growth = true := by
  rw [(mv_growB us).2]
  unfold fitsB
  simp only [mvB, mv_inodes, mv_blocks, w64, Bool.and_eq_true, decide_eq_true_eq]
  unfold wrap64
  omega
theorem mv_there0 (n : Int) (D : List Slt) (fs : List Nd) : leaveT ⟨1, 1, 60, n, w64 (4 + 0), (Nd.dir 4 1024 (some (1, [97]) :: some (2, [98]) :: List.replicate 28 none) :: .dir 3 1024 (some (3, [100]) :: List.replicate 29 none) :: .dir 2 1024 (List.replicate 30 none) :: .dir 2 1024 D :: fs).modify 2 (fun x => x.add [101] 3)⟩ 1 [100] 3 2 = ⟨1, 1, 60, n, 4, .dir 4 1024 (some (1, [97]) :: some (2, [98]) :: List.replicate 28 none) :: .dir 2 1024 (List.replicate 30 none) :: .dir 3 1024 (some (3, [101]) :: List.replicate 29 none) :: .dir 2 1024 D :: fs⟩ := by kernel_rfl
theorem mv_back0 (n : Int) (D : List Slt) (fs : List Nd) : leaveT ⟨1, 1, 60, n, w64 (4 + 0), (Nd.dir 4 1024 (some (1, [97]) :: some (2, [98]) :: List.replicate 28 none) :: .dir 2 1024 (List.replicate 30 none) :: .dir 3 1024 (some (3, [101]) :: List.replicate 29 none) :: .dir 2 1024 D :: fs).modify 1 (fun x => x.add [100] 3)⟩ 2 [101] 3 1 = ⟨1, 1, 60, n, 4, .dir 4 1024 (some (1, [97]) :: some (2, [98]) :: List.replicate 28 none) :: .dir 3 1024 (some (3, [100]) :: List.replicate 29 none) :: .dir 2 1024 (List.replicate 30 none) :: .dir 2 1024 D :: fs⟩ := by kernel_rfl
theorem mv_there {us : List (List UInt8)} (h : us.length ≤ 8) : moveT (mvA us) 1 [100] 3 2 [101] = mvB us := by
  have e : w64 ((us.length : Int) + 4 + 0) = (us.length : Int) + 4 := by unfold w64 wrap64; omega
  unfold moveT
  rw [(mv_growB us).1]
  simp only [mvA, e]
  exact mv_there0 _ _ _
theorem mv_back {us : List (List UInt8)} (h : us.length ≤ 8) : moveT (mvB us) 2 [101] 3 1 [100] = mvA us := by
  have e : w64 ((us.length : Int) + 4 + 0) = (us.length : Int) + 4 := by unfold w64 wrap64; omega
  unfold moveT
  rw [(mv_growB us).2]
  simp only [mvB, e]
  exact mv_back0 _ _ _
theorem mv1_is : enterS (newT 1 1 60) (ofS ⟨#[47, 97]⟩) newD = (0, mv1) := Prod.ext mv1_err rfl
theorem mv2_is : enterS mv1 (ofS ⟨#[47, 98]⟩) newD = (0, mv2) := Prod.ext mv2_err rfl
theorem mv3_all : enterS mv2 (ofS ⟨#[47, 97, 47, 100]⟩) newD = (0, mvA []) := Prod.ext mv3_err mv3_is
end Go.Proofs.YtehaoeclnmelhabGreat
