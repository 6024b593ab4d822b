/-
  What the laws' own small functions answer; Do's answers for single kinds; the document's example in lists.
-/
import Derived.Test.YtehaoeclnmelhacGreatLayRm
import Derived.Test.YtehaoeclnmelhacGreatTrDo
namespace Go.Proofs.YtehaoeclnmelhacGreat
open Go Go.Proofs Go.RowKit Go.Shelf Go.Sort

set_option maxRecDepth 100000 in
theorem lnum_any (w : World) (e : Int) : Calls Tryz.prog 11 #[.int .i64 e] w fun x w' => x = .returned (.int .i64 e) ∧ w' = w := by
  go_enter Tryz.func11, Tryz.ntmps11
  go_wp2
  go_ret
  exact ⟨rfl, rfl⟩
set_option maxRecDepth 100000 in
theorem lG_any (w : World) (d : Int) : Calls Tryz.prog 13 #[.int .i64 d] w fun x w' => x = .returned (geo 1 1 d) ∧ Below w.heap.size w w' := by
  go_enter Tryz.func13, Tryz.ntmps13
  go_wp2
  refine bodyPost_ret (v := geo 1 1 d) ?_ rfl ⟨rfl, ?_⟩
  · simp [results, Tryz.results13, go_sem, geo]
  · exact (Below.refl _ w).alloc (Nat.le_refl _) _
set_option maxRecDepth 100000 in
theorem lC_any (w : World) (k : Int) (s : ByteArray) : Calls Tryz.prog 10 #[.int .i64 k, .string s] w fun x w' => x = .returned (callV k s ⟨#[]⟩ 0 0 (.slice none 0 0)) ∧ Below w.heap.size w w' := by
  go_enter Tryz.func10, Tryz.ntmps10
  go_wp2
  refine bodyPost_ret (v := callV k s ⟨#[]⟩ 0 0 (.slice none 0 0)) ?_ rfl ⟨rfl, ?_⟩
  · simp [results, Tryz.results10, go_sem, callV]
  · exact (Below.refl _ w).alloc (Nat.le_refl _) _
set_option maxRecDepth 100000 in
theorem lTo_any (w : World) (k : Int) (s s2 : ByteArray) : Calls Tryz.prog 15 #[.int .i64 k, .string s, .string s2] w fun x w' => x = .returned (callV k s s2 0 0 (.slice none 0 0)) ∧ Below w.heap.size w w' := by
  go_enter Tryz.func15, Tryz.ntmps15
  go_wp2
  refine bodyPost_ret (v := callV k s s2 0 0 (.slice none 0 0)) ?_ rfl ⟨rfl, ?_⟩
  · simp [results, Tryz.results15, go_sem, callV]
  · exact (Below.refl _ w).alloc (Nat.le_refl _) _
theorem doo_mkdir (w : World) (t : Nat) (σ : Tr) (Ls : List Lay) (hT : TrAt w t σ Ls) (hOk : ∀ x ∈ σ.nodes, x.Ok) (s s2 : ByteArray) (off m : Int) (dp : Option Addr) (dl dc : Nat) (hs : s.size ≤ 16777216) :
    Calls Tryz.prog 9 #[ptrV t, callV 2 s s2 off m (.slice dp dl dc)] w fun e w' => e = .returned (errV (enterS σ (ofS s) newD).1) ∧ Step (fun k => k ∈ feet t Ls) w t w' (enterS σ (ofS s) newD).2 := by
  refine (do_mkdir w t (enterS σ (ofS s) newD).2 Ls s s2 off m dp dl dc (enterS σ (ofS s) newD).1 0 0 0 0 (fun x y _ => x = .slice none 0 0 ∧ y = .slice none 0 0) (fun k hk => hT.lt k hk) (fun _ _ _ _ h _ => h) (Hid.mk (fun W hB _ => (mkdir_any W t σ Ls (hT.below rfl hB) hOk 2 s s2 off m dp dl dc hs).mono (fun e w' hh => ⟨none, 0, 0, none, 0, 0, hh.1, hh.2, rfl, rfl⟩)))).mono ?_
  rintro e w' ⟨a1, n1, c1, a5, n5, c5, rfl, hst, h1, h2⟩
  cases h1; cases h2
  exact ⟨rfl, hst⟩
theorem doo_create (w : World) (t : Nat) (σ : Tr) (Ls : List Lay) (hT : TrAt w t σ Ls) (hOk : ∀ x ∈ σ.nodes, x.Ok) (s s2 : ByteArray) (off m : Int) (dp : Option Addr) (dl dc : Nat) (hs : s.size ≤ 16777216) :
    Calls Tryz.prog 9 #[ptrV t, callV 1 s s2 off m (.slice dp dl dc)] w fun e w' => e = .returned (errV (enterS σ (ofS s) newF).1) ∧ Step (fun k => k ∈ feet t Ls) w t w' (enterS σ (ofS s) newF).2 := by
  refine (do_create w t (enterS σ (ofS s) newF).2 Ls s s2 off m dp dl dc (enterS σ (ofS s) newF).1 0 0 0 0 (fun x y _ => x = .slice none 0 0 ∧ y = .slice none 0 0) (fun k hk => hT.lt k hk) (fun _ _ _ _ h _ => h) (Hid.mk (fun W hB _ => (create_any W t σ Ls (hT.below rfl hB) hOk 1 s s2 off m dp dl dc hs).mono (fun e w' hh => ⟨none, 0, 0, none, 0, 0, hh.1, hh.2, rfl, rfl⟩)))).mono ?_
  rintro e w' ⟨a1, n1, c1, a5, n5, c5, rfl, hst, h1, h2⟩
  cases h1; cases h2
  exact ⟨rfl, hst⟩
theorem doo_loop (w : World) (t : Nat) (σ : Tr) (Ls : List Lay) (hT : TrAt w t σ Ls) (s s2 : ByteArray) (off m : Int) (dp : Option Addr) (dl dc : Nat) (hs : s.size ≤ 16777216) (hs2 : s2.size ≤ 16777216) (L M : List (List UInt8)) (p q : List UInt8) (h1 : splitL (ofS s) = some (L ++ [p])) (h2 : splitL (ofS s2) = some (M ++ [q])) (d j d2 : Nat) (o : Option Nat) (he : spotE σ.nodes L p = (0, some ⟨d, p, some j⟩)) (he2 : spotE σ.nodes M q = (0, some ⟨d2, q, o⟩)) (hj : j < σ.nodes.length) (hw : onWay σ.nodes M j = true) :
    Calls Tryz.prog 9 #[ptrV t, callV 6 s s2 off m (.slice dp dl dc)] w fun e w' => e = .returned (errV 19) ∧ Step (fun k => k ∈ feet t Ls) w t w' σ := by
  refine (do_rename w t σ Ls s s2 off m dp dl dc 19 0 0 0 0 (fun x y _ => x = .slice none 0 0 ∧ y = .slice none 0 0) (fun k hk => hT.lt k hk) (fun _ _ _ _ h _ => h) (Hid.mk (fun W hB _ => (rename_loop W t σ Ls (hT.below rfl hB) 6 s s2 off m dp dl dc hs hs2 L M p q h1 h2 d j d2 o he he2 hj hw).mono (fun e w' hh => ⟨none, 0, 0, none, 0, 0, hh.1, Step.still (hT.below rfl hB) (fun k hk => hk) hh.2, rfl, rfl⟩)))).mono ?_
  rintro e w' ⟨a1, n1, c1, a5, n5, c5, rfl, hst, h1, h2⟩
  cases h1; cases h2
  exact ⟨rfl, hst⟩
theorem doo_stat (w : World) (t : Nat) (σ : Tr) (Ls : List Lay) (hT : TrAt w t σ Ls) (s s2 : ByteArray) (off m : Int) (dp : Option Addr) (dl dc : Nat) (hs : s.size ≤ 16777216) (e0 e2 e3 e4 : Int) (hv : statV σ.nodes (ofS s) = .agg #[.int .i64 e0, .slice none 0 0, .int .i64 e2, .int .i64 e3, .int .i64 e4, .slice none 0 0, .int .i64 0]) :
    Calls Tryz.prog 9 #[ptrV t, callV 10 s s2 off m (.slice dp dl dc)] w fun e w' => e = .returned (.agg #[.int .i64 e0, .slice none 0 0, .int .i64 e2, .int .i64 e3, .int .i64 e4, .slice none 0 0, .int .i64 0]) ∧ Step (fun k => k ∈ feet t Ls) w t w' σ := by
  refine (do_stat w t σ Ls s s2 off m dp dl dc e0 e2 e3 e4 0 (fun x y _ => x = .slice none 0 0 ∧ y = .slice none 0 0) (fun k hk => hT.lt k hk) (fun _ _ _ _ h _ => h) (Hid.mk (fun W hB _ => (stat_any W t σ Ls (hT.below rfl hB) 10 s s2 off m dp dl dc hs).mono (fun e w' hh => ⟨none, 0, 0, none, 0, 0, by rw [hh.1, hv], Step.still (hT.below rfl hB) (fun k hk => hk) hh.2, rfl, rfl⟩)))).mono ?_
  rintro e w' ⟨a1, n1, c1, a5, n5, c5, rfl, hst, h1, h2⟩
  cases h1; cases h2
  exact ⟨rfl, hst⟩
/-- The example's trees. -/
def exA : Tr := (enterS (newT 1 1 20) [47, 97] newD).2
def exB : Tr := (enterS exA [47, 97, 47, 98] newF).2
theorem exA_err : (enterS (newT 1 1 20) [47, 97] newD).1 = 0 := by decide +kernel
theorem exB_err : (enterS exA [47, 97, 47, 98] newF).1 = 0 := by decide +kernel
theorem exA_nodes : exA.nodes = [.dir 3 1024 (some (1, [97]) :: List.replicate 29 none), newD] := by kernel_rfl
theorem exB_nodes : exB.nodes = [.dir 3 1024 (some (1, [97]) :: List.replicate 29 none), .dir 2 1024 (some (2, [98]) :: List.replicate 29 none), newF] := by kernel_rfl
theorem new_ok (G I D : Int) : ∀ x ∈ (newT G I D).nodes, x.Ok := by
  intro x hx
  simp only [newT, List.mem_singleton] at hx
  subst hx
  exact dir_ok
theorem exA_ok : ∀ x ∈ exA.nodes, x.Ok := by
  rw [exA_nodes]
  intro x hx
  simp only [List.mem_cons, List.not_mem_nil, or_false] at hx
  rcases hx with rfl | rfl
  · exact ⟨by omega, by omega, by simp⟩
  · exact dir_ok
theorem ex_s1 : splitL [47, 97] = some ([] ++ [[97]]) := by decide
theorem ex_s2 : splitL [47, 97, 47, 99] = some ([[97]] ++ [[99]]) := by decide
theorem ex_p1 : spotE exB.nodes [] [97] = (0, some ⟨0, [97], some 1⟩) := by rw [exB_nodes]; rfl
theorem ex_p2 : spotE exB.nodes [[97]] [99] = (0, some ⟨1, [99], none⟩) := by rw [exB_nodes]; rfl
theorem ex_w : onWay exB.nodes [[97]] 1 = true := by rw [exB_nodes]; decide +kernel
end Go.Proofs.YtehaoeclnmelhacGreat
