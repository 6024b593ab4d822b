/-
  TreeKinds: what each kind of call answers of a file and of a directory.
-/
import Derived.Test.YtehaoeclnmelhacGreatLayTop
import Derived.Test.YtehaoeclnmelhacGreatLayRn
import Derived.Test.YtehaoeclnmelhacGreatTrTot
import Derived.Test.YtehaoeclnmelhacGreatTrLink
import Derived.Test.YtehaoeclnmelhacGreatTrAlive
import Derived.Test.YtehaoeclnmelhacGreatTrWrDo
import Derived.Test.YtehaoeclnmelhacGreatTrRdDo
namespace Go.Proofs.YtehaoeclnmelhacGreat
open Go Go.Proofs Go.RowKit Go.Shelf Go.Sort

def kd1 : Tr := (enterS (newT 1 1 40) [47, 102] newF).2
def kdT : Tr := ⟨1, 1, 40, 3, 2, [.dir 3 1024 (some (1, [102]) :: some (2, [100]) :: List.replicate 28 none), newF, newD]⟩
theorem kd1_is : enterS (newT 1 1 40) (ofS ⟨#[47, 102]⟩) newF = (0, kd1) := Prod.ext (by decide +kernel) rfl
theorem kd2_is : enterS kd1 (ofS ⟨#[47, 100]⟩) newD = (0, kdT) := Prod.ext (by decide +kernel) (by kernel_rfl)
theorem kd1_nodes : kd1.nodes = [.dir 2 1024 (some (1, [102]) :: List.replicate 29 none), newF] := by kernel_rfl
theorem newD_ok : newD.Ok := by unfold newD; exact ⟨by omega, by omega, by simp⟩
theorem newF_ok : newF.Ok := by unfold newF; exact ⟨⟨List.Pairwise.nil, fun x h => (List.not_mem_nil h).elim⟩, by simp⟩
theorem kd1_ok : ∀ x ∈ kd1.nodes, x.Ok := by
  rw [kd1_nodes]
  intro x hx
  simp only [List.mem_cons, List.not_mem_nil, or_false] at hx
  rcases hx with rfl | rfl
  · exact ⟨by omega, by omega, by simp⟩
  · exact newF_ok
theorem kd_ok : ∀ x ∈ kdT.nodes, x.Ok := by
  unfold kdT
  intro x hx
  simp only [List.mem_cons, List.not_mem_nil, or_false] at hx
  rcases hx with rfl | rfl | rfl
  · exact ⟨by omega, by omega, by simp⟩
  · exact newF_ok
  · exact newD_ok
/-- The answer has this error. -/
def KdQ (v : Int) (e : Ending) : Prop := ∃ (a1 : Option Addr) (n1 c1 : Nat) (e2 e3 e4 : Int) (a5 : Option Addr) (n5 c5 : Nat) (e6 : Int), e = .returned (.agg #[.int .i64 v, .slice a1 n1 c1, .int .i64 e2, .int .i64 e3, .int .i64 e4, .slice a5 n5 c5, .int .i64 e6])
theorem kd_err {F : FuncId} {vs : Array Value} {W : World} {t : Nat} {Ls : List Lay} {S : Tr} {E v : Int} (hE : E = v) (h : Calls Tryz.prog F vs W fun e w' => e = .returned (errV E) ∧ Step (fun k => k ∈ feet t Ls) W t w' S) : Calls Tryz.prog F vs W fun e w' => KdQ v e ∧ Only (fun k => k ∈ feet t Ls) W w' := by
  subst hE
  exact h.mono (fun e w' hh => ⟨⟨_, _, _, _, _, _, _, _, _, _, hh.1⟩, hh.2.only⟩)
theorem kd_f1 (W : World) (t : Nat) (Ls : List Lay) (hT : TrAt W t kdT Ls) (a : Addr) (_hX : BAt W (some a) 1 [1]) (_ha : a.block ∉ feet t Ls) : Calls Tryz.prog 9 #[ptrV t, callV 1 ⟨#[47, 102]⟩ ⟨#[47, 122]⟩ 0 5 (.slice (some a) 1 1)] W fun e w' => KdQ 11 e ∧ Only (fun k => k ∈ feet t Ls) W w' :=
  (kd_err (E := (enterS kdT (ofS ⟨#[47, 102]⟩) newF).1) (v := 11) (by kernel_rfl) (doo_create W t kdT Ls hT kd_ok ⟨#[47, 102]⟩ ⟨#[47, 122]⟩ 0 5 (some a) 1 1 (by decide)))
theorem kd_f2 (W : World) (t : Nat) (Ls : List Lay) (hT : TrAt W t kdT Ls) (a : Addr) (_hX : BAt W (some a) 1 [1]) (_ha : a.block ∉ feet t Ls) : Calls Tryz.prog 9 #[ptrV t, callV 2 ⟨#[47, 102]⟩ ⟨#[47, 122]⟩ 0 5 (.slice (some a) 1 1)] W fun e w' => KdQ 11 e ∧ Only (fun k => k ∈ feet t Ls) W w' :=
  (kd_err (E := (enterS kdT (ofS ⟨#[47, 102]⟩) newD).1) (v := 11) (by kernel_rfl) (doo_mkdir W t kdT Ls hT kd_ok ⟨#[47, 102]⟩ ⟨#[47, 122]⟩ 0 5 (some a) 1 1 (by decide)))
theorem kd_f3 (W : World) (t : Nat) (Ls : List Lay) (hT : TrAt W t kdT Ls) (a : Addr) (_hX : BAt W (some a) 1 [1]) (_ha : a.block ∉ feet t Ls) : Calls Tryz.prog 9 #[ptrV t, callV 3 ⟨#[47, 102]⟩ ⟨#[47, 122]⟩ 0 5 (.slice (some a) 1 1)] W fun e w' => KdQ 0 e ∧ Only (fun k => k ∈ feet t Ls) W w' :=
  (kd_err (E := 0) (v := 0) (by rfl) (doo_link W t kdT Ls hT kd_ok ⟨#[47, 102]⟩ ⟨#[47, 122]⟩ 0 5 (some a) 1 1 (by decide) (by decide) [[102]] [] [122] (by decide) (by decide) 1 0 (by kernel_rfl) (by kernel_rfl) (by kernel_rfl) (by decide) (by kernel_rfl)))
theorem kd_f4 (W : World) (t : Nat) (Ls : List Lay) (hT : TrAt W t kdT Ls) (a : Addr) (_hX : BAt W (some a) 1 [1]) (_ha : a.block ∉ feet t Ls) : Calls Tryz.prog 9 #[ptrV t, callV 4 ⟨#[47, 102]⟩ ⟨#[47, 122]⟩ 0 5 (.slice (some a) 1 1)] W fun e w' => KdQ 0 e ∧ Only (fun k => k ∈ feet t Ls) W w' :=
  (kd_err (E := (unlinkS kdT (ofS ⟨#[47, 102]⟩)).1) (v := 0) (by kernel_rfl) (doo_unlinkS W t kdT Ls hT kd_ok ⟨#[47, 102]⟩ ⟨#[47, 122]⟩ 0 5 (some a) 1 1 (by decide)))
theorem kd_f5 (W : World) (t : Nat) (Ls : List Lay) (hT : TrAt W t kdT Ls) (a : Addr) (_hX : BAt W (some a) 1 [1]) (_ha : a.block ∉ feet t Ls) : Calls Tryz.prog 9 #[ptrV t, callV 5 ⟨#[47, 102]⟩ ⟨#[47, 122]⟩ 0 5 (.slice (some a) 1 1)] W fun e w' => KdQ 12 e ∧ Only (fun k => k ∈ feet t Ls) W w' :=
  (kd_err (E := (rmdirS kdT (ofS ⟨#[47, 102]⟩)).1) (v := 12) (by kernel_rfl) (doo_rmdirS W t kdT Ls hT kd_ok ⟨#[47, 102]⟩ ⟨#[47, 122]⟩ 0 5 (some a) 1 1 (by decide)))
theorem kd_f6 (W : World) (t : Nat) (Ls : List Lay) (hT : TrAt W t kdT Ls) (a : Addr) (_hX : BAt W (some a) 1 [1]) (_ha : a.block ∉ feet t Ls) : Calls Tryz.prog 9 #[ptrV t, callV 6 ⟨#[47, 102]⟩ ⟨#[47, 122]⟩ 0 5 (.slice (some a) 1 1)] W fun e w' => KdQ 0 e ∧ Only (fun k => k ∈ feet t Ls) W w' :=
  (kd_err (E := (renameS kdT (ofS ⟨#[47, 102]⟩) (ofS ⟨#[47, 122]⟩)).1) (v := 0) (by kernel_rfl) (doo_rename W t kdT Ls hT kd_ok ⟨#[47, 102]⟩ ⟨#[47, 122]⟩ 0 5 (some a) 1 1 (by decide) (by decide)))
theorem kd_f7 (W : World) (t : Nat) (Ls : List Lay) (hT : TrAt W t kdT Ls) (a : Addr) (_hX : BAt W (some a) 1 [1]) (_ha : a.block ∉ feet t Ls) : Calls Tryz.prog 9 #[ptrV t, callV 7 ⟨#[47, 102]⟩ ⟨#[47, 122]⟩ 0 5 (.slice (some a) 1 1)] W fun e w' => KdQ 0 e ∧ Only (fun k => k ∈ feet t Ls) W w' :=
  ((doo_read W t kdT Ls hT kd_ok ⟨#[47, 102]⟩ ⟨#[47, 122]⟩ 0 5 (some a) 1 1 (by decide) 1 (by kernel_rfl) (show 1 < 3 by decide) (by kernel_rfl) (by decide) (by decide) (by decide) (by decide) (show (0 : Int) ≤ 0 ∧ (0 : Int) ≤ 67379200 by decide) 0 (show ((0 : Nat) : Int) = max 0 (min 5 ((0 : Int) - 0)) by decide)).mono (fun e w' h => by obtain ⟨g, h1, _, _, h4⟩ := h; exact ⟨⟨_, _, _, _, _, _, _, _, _, _, h1⟩, h4.only⟩))
theorem kd_f8 (W : World) (t : Nat) (Ls : List Lay) (hT : TrAt W t kdT Ls) (a : Addr) (hX : BAt W (some a) 1 [1]) (ha : a.block ∉ feet t Ls) : Calls Tryz.prog 9 #[ptrV t, callV 8 ⟨#[47, 102]⟩ ⟨#[47, 122]⟩ 0 5 (.slice (some a) 1 1)] W fun e w' => KdQ 0 e ∧ Only (fun k => k ∈ feet t Ls) W w' :=
  ((doo_write W t kdT Ls hT kd_ok ⟨#[47, 102]⟩ ⟨#[47, 122]⟩ 0 5 a 1 1 [1] (by decide) 1 (by kernel_rfl) (show 1 < 3 by decide) (by kernel_rfl) (by decide) (by decide) (by decide) (by decide) (by decide) (by decide) hX ha (show ([] : List (Int × List Int)).length ≤ 70000 by decide) (by kernel_rfl)).mono (fun e w' h => ⟨⟨_, _, _, _, _, _, _, _, _, _, h.1⟩, h.2.only⟩))
theorem kd_f9 (W : World) (t : Nat) (Ls : List Lay) (hT : TrAt W t kdT Ls) (a : Addr) (_hX : BAt W (some a) 1 [1]) (_ha : a.block ∉ feet t Ls) : Calls Tryz.prog 9 #[ptrV t, callV 9 ⟨#[47, 102]⟩ ⟨#[47, 122]⟩ 0 5 (.slice (some a) 1 1)] W fun e w' => KdQ 0 e ∧ Only (fun k => k ∈ feet t Ls) W w' :=
  (kd_err (E := (truncS kdT (ofS ⟨#[47, 102]⟩) 5).1) (v := 0) (by kernel_rfl) (doo_truncS W t kdT Ls hT kd_ok ⟨#[47, 102]⟩ ⟨#[47, 122]⟩ 0 5 (some a) 1 1 (by decide)))
theorem kd_f10 (W : World) (t : Nat) (Ls : List Lay) (hT : TrAt W t kdT Ls) (a : Addr) (_hX : BAt W (some a) 1 [1]) (_ha : a.block ∉ feet t Ls) : Calls Tryz.prog 9 #[ptrV t, callV 10 ⟨#[47, 102]⟩ ⟨#[47, 122]⟩ 0 5 (.slice (some a) 1 1)] W fun e w' => KdQ 0 e ∧ Only (fun k => k ∈ feet t Ls) W w' :=
  ((doo_stat W t kdT Ls hT ⟨#[47, 102]⟩ ⟨#[47, 122]⟩ 0 5 (some a) 1 1 (by decide) 0 1 0 1 (by kernel_rfl)).mono (fun e w' h => ⟨⟨_, _, _, _, _, _, _, _, _, _, h.1⟩, h.2.only⟩))
theorem kd_f11 (W : World) (t : Nat) (Ls : List Lay) (hT : TrAt W t kdT Ls) (a : Addr) (_hX : BAt W (some a) 1 [1]) (_ha : a.block ∉ feet t Ls) : Calls Tryz.prog 9 #[ptrV t, callV 11 ⟨#[47, 102]⟩ ⟨#[47, 122]⟩ 0 5 (.slice (some a) 1 1)] W fun e w' => KdQ 12 e ∧ Only (fun k => k ∈ feet t Ls) W w' :=
  (kd_err (E := 12) (v := 12) (by rfl) (doo_listF W t kdT Ls hT ⟨#[47, 102]⟩ ⟨#[47, 122]⟩ 0 5 (some a) 1 1 (by decide) 1 (by kernel_rfl) (by kernel_rfl)))
theorem kd_f12 (W : World) (t : Nat) (Ls : List Lay) (hT : TrAt W t kdT Ls) (a : Addr) (_hX : BAt W (some a) 1 [1]) (_ha : a.block ∉ feet t Ls) : Calls Tryz.prog 9 #[ptrV t, callV 12 ⟨#[47, 102]⟩ ⟨#[47, 122]⟩ 0 5 (.slice (some a) 1 1)] W fun e w' => KdQ 0 e ∧ Only (fun k => k ∈ feet t Ls) W w' :=
  (kd_err (E := (nodeE kdT.nodes (ofS ⟨#[47, 102]⟩)).2) (v := 0) (by kernel_rfl) (doo_fsyncS W t kdT Ls hT ⟨#[47, 102]⟩ ⟨#[47, 122]⟩ 0 5 (some a) 1 1 (by decide)))
theorem kd_f13 (W : World) (t : Nat) (Ls : List Lay) (hT : TrAt W t kdT Ls) (a : Addr) (_hX : BAt W (some a) 1 [1]) (_ha : a.block ∉ feet t Ls) : Calls Tryz.prog 9 #[ptrV t, callV 13 ⟨#[47, 102]⟩ ⟨#[47, 122]⟩ 0 5 (.slice (some a) 1 1)] W fun e w' => KdQ 0 e ∧ Only (fun k => k ∈ feet t Ls) W w' :=
  (kd_err (E := 0) (v := 0) (by rfl) (doo_syncS W t kdT Ls hT ⟨#[47, 102]⟩ ⟨#[47, 122]⟩ 0 5 (some a) 1 1 (by decide)))
theorem kd_fx (k : Int) (hk : k < 1 ∨ 13 < k) (hwf : (Lit.int .i64 k).wf = true) (W : World) (t : Nat) (Ls : List Lay) (hT : TrAt W t kdT Ls) (a : Addr) (_hX : BAt W (some a) 1 [1]) (_ha : a.block ∉ feet t Ls) : Calls Tryz.prog 9 #[ptrV t, callV k ⟨#[47, 102]⟩ ⟨#[47, 122]⟩ 0 5 (.slice (some a) 1 1)] W fun e w' => KdQ 1 e ∧ Only (fun k => k ∈ feet t Ls) W w' :=
  (kd_err (E := 1) (v := 1) (by rfl) (doo_otherS W t kdT Ls hT k hk hwf ⟨#[47, 102]⟩ ⟨#[47, 122]⟩ 0 5 (some a) 1 1))
theorem kd_d1 (W : World) (t : Nat) (Ls : List Lay) (hT : TrAt W t kdT Ls) (a : Addr) (_hX : BAt W (some a) 1 [1]) (_ha : a.block ∉ feet t Ls) : Calls Tryz.prog 9 #[ptrV t, callV 1 ⟨#[47, 100]⟩ ⟨#[47, 122]⟩ 0 5 (.slice (some a) 1 1)] W fun e w' => KdQ 11 e ∧ Only (fun k => k ∈ feet t Ls) W w' :=
  (kd_err (E := (enterS kdT (ofS ⟨#[47, 100]⟩) newF).1) (v := 11) (by kernel_rfl) (doo_create W t kdT Ls hT kd_ok ⟨#[47, 100]⟩ ⟨#[47, 122]⟩ 0 5 (some a) 1 1 (by decide)))
theorem kd_d2 (W : World) (t : Nat) (Ls : List Lay) (hT : TrAt W t kdT Ls) (a : Addr) (_hX : BAt W (some a) 1 [1]) (_ha : a.block ∉ feet t Ls) : Calls Tryz.prog 9 #[ptrV t, callV 2 ⟨#[47, 100]⟩ ⟨#[47, 122]⟩ 0 5 (.slice (some a) 1 1)] W fun e w' => KdQ 11 e ∧ Only (fun k => k ∈ feet t Ls) W w' :=
  (kd_err (E := (enterS kdT (ofS ⟨#[47, 100]⟩) newD).1) (v := 11) (by kernel_rfl) (doo_mkdir W t kdT Ls hT kd_ok ⟨#[47, 100]⟩ ⟨#[47, 122]⟩ 0 5 (some a) 1 1 (by decide)))
theorem kd_d3 (W : World) (t : Nat) (Ls : List Lay) (hT : TrAt W t kdT Ls) (a : Addr) (_hX : BAt W (some a) 1 [1]) (_ha : a.block ∉ feet t Ls) : Calls Tryz.prog 9 #[ptrV t, callV 3 ⟨#[47, 100]⟩ ⟨#[47, 122]⟩ 0 5 (.slice (some a) 1 1)] W fun e w' => KdQ 13 e ∧ Only (fun k => k ∈ feet t Ls) W w' :=
  (kd_err (E := 13) (v := 13) (by rfl) (doo_link_dir W t kdT Ls hT ⟨#[47, 100]⟩ ⟨#[47, 122]⟩ 0 5 (some a) 1 1 (by decide) (by decide) [[100]] [[122]] (by decide) (by decide) 2 (by kernel_rfl) (by kernel_rfl)))
theorem kd_d4 (W : World) (t : Nat) (Ls : List Lay) (hT : TrAt W t kdT Ls) (a : Addr) (_hX : BAt W (some a) 1 [1]) (_ha : a.block ∉ feet t Ls) : Calls Tryz.prog 9 #[ptrV t, callV 4 ⟨#[47, 100]⟩ ⟨#[47, 122]⟩ 0 5 (.slice (some a) 1 1)] W fun e w' => KdQ 13 e ∧ Only (fun k => k ∈ feet t Ls) W w' :=
  (kd_err (E := (unlinkS kdT (ofS ⟨#[47, 100]⟩)).1) (v := 13) (by kernel_rfl) (doo_unlinkS W t kdT Ls hT kd_ok ⟨#[47, 100]⟩ ⟨#[47, 122]⟩ 0 5 (some a) 1 1 (by decide)))
theorem kd_d5 (W : World) (t : Nat) (Ls : List Lay) (hT : TrAt W t kdT Ls) (a : Addr) (_hX : BAt W (some a) 1 [1]) (_ha : a.block ∉ feet t Ls) : Calls Tryz.prog 9 #[ptrV t, callV 5 ⟨#[47, 100]⟩ ⟨#[47, 122]⟩ 0 5 (.slice (some a) 1 1)] W fun e w' => KdQ 0 e ∧ Only (fun k => k ∈ feet t Ls) W w' :=
  (kd_err (E := (rmdirS kdT (ofS ⟨#[47, 100]⟩)).1) (v := 0) (by kernel_rfl) (doo_rmdirS W t kdT Ls hT kd_ok ⟨#[47, 100]⟩ ⟨#[47, 122]⟩ 0 5 (some a) 1 1 (by decide)))
theorem kd_d6 (W : World) (t : Nat) (Ls : List Lay) (hT : TrAt W t kdT Ls) (a : Addr) (_hX : BAt W (some a) 1 [1]) (_ha : a.block ∉ feet t Ls) : Calls Tryz.prog 9 #[ptrV t, callV 6 ⟨#[47, 100]⟩ ⟨#[47, 122]⟩ 0 5 (.slice (some a) 1 1)] W fun e w' => KdQ 0 e ∧ Only (fun k => k ∈ feet t Ls) W w' :=
  (kd_err (E := (renameS kdT (ofS ⟨#[47, 100]⟩) (ofS ⟨#[47, 122]⟩)).1) (v := 0) (by kernel_rfl) (doo_rename W t kdT Ls hT kd_ok ⟨#[47, 100]⟩ ⟨#[47, 122]⟩ 0 5 (some a) 1 1 (by decide) (by decide)))
theorem kd_d7 (W : World) (t : Nat) (Ls : List Lay) (hT : TrAt W t kdT Ls) (a : Addr) (_hX : BAt W (some a) 1 [1]) (_ha : a.block ∉ feet t Ls) : Calls Tryz.prog 9 #[ptrV t, callV 7 ⟨#[47, 100]⟩ ⟨#[47, 122]⟩ 0 5 (.slice (some a) 1 1)] W fun e w' => KdQ 13 e ∧ Only (fun k => k ∈ feet t Ls) W w' :=
  (kd_err (E := 13) (v := 13) (by rfl) (doo_read_no W t kdT Ls hT ⟨#[47, 100]⟩ ⟨#[47, 122]⟩ 0 5 (some a) 1 1 (by decide) (by decide) (by decide) (by decide) 13 (by kernel_rfl) (by decide)))
theorem kd_d8 (W : World) (t : Nat) (Ls : List Lay) (hT : TrAt W t kdT Ls) (a : Addr) (_hX : BAt W (some a) 1 [1]) (_ha : a.block ∉ feet t Ls) : Calls Tryz.prog 9 #[ptrV t, callV 8 ⟨#[47, 100]⟩ ⟨#[47, 122]⟩ 0 5 (.slice (some a) 1 1)] W fun e w' => KdQ 13 e ∧ Only (fun k => k ∈ feet t Ls) W w' :=
  (kd_err (E := 13) (v := 13) (by rfl) (doo_write_no W t kdT Ls hT ⟨#[47, 100]⟩ ⟨#[47, 122]⟩ 0 5 (some a) 1 1 (by decide) (by decide) (by decide) 13 (by kernel_rfl) (by decide)))
theorem kd_d9 (W : World) (t : Nat) (Ls : List Lay) (hT : TrAt W t kdT Ls) (a : Addr) (_hX : BAt W (some a) 1 [1]) (_ha : a.block ∉ feet t Ls) : Calls Tryz.prog 9 #[ptrV t, callV 9 ⟨#[47, 100]⟩ ⟨#[47, 122]⟩ 0 5 (.slice (some a) 1 1)] W fun e w' => KdQ 13 e ∧ Only (fun k => k ∈ feet t Ls) W w' :=
  (kd_err (E := (truncS kdT (ofS ⟨#[47, 100]⟩) 5).1) (v := 13) (by kernel_rfl) (doo_truncS W t kdT Ls hT kd_ok ⟨#[47, 100]⟩ ⟨#[47, 122]⟩ 0 5 (some a) 1 1 (by decide)))
theorem kd_d10 (W : World) (t : Nat) (Ls : List Lay) (hT : TrAt W t kdT Ls) (a : Addr) (_hX : BAt W (some a) 1 [1]) (_ha : a.block ∉ feet t Ls) : Calls Tryz.prog 9 #[ptrV t, callV 10 ⟨#[47, 100]⟩ ⟨#[47, 122]⟩ 0 5 (.slice (some a) 1 1)] W fun e w' => KdQ 0 e ∧ Only (fun k => k ∈ feet t Ls) W w' :=
  ((doo_stat W t kdT Ls hT ⟨#[47, 100]⟩ ⟨#[47, 122]⟩ 0 5 (some a) 1 1 (by decide) 0 2 1024 2 (by kernel_rfl)).mono (fun e w' h => ⟨⟨_, _, _, _, _, _, _, _, _, _, h.1⟩, h.2.only⟩))
theorem kd_d11 (W : World) (t : Nat) (Ls : List Lay) (hT : TrAt W t kdT Ls) (a : Addr) (_hX : BAt W (some a) 1 [1]) (_ha : a.block ∉ feet t Ls) : Calls Tryz.prog 9 #[ptrV t, callV 11 ⟨#[47, 100]⟩ ⟨#[47, 122]⟩ 0 5 (.slice (some a) 1 1)] W fun e w' => KdQ 0 e ∧ Only (fun k => k ∈ feet t Ls) W w' :=
  ((doo_list W t kdT Ls hT ⟨#[47, 100]⟩ ⟨#[47, 122]⟩ 0 5 (some a) 1 1 (by decide) 2 (by kernel_rfl) (by kernel_rfl) (show (List.replicate 30 (none : Slt)).length ≤ 16777216 by decide)).mono (fun e w' h => by obtain ⟨ao, c, h1, _, _, _, _, h6⟩ := h; exact ⟨⟨_, _, _, _, _, _, _, _, _, _, h1⟩, h6.only⟩))
theorem kd_d12 (W : World) (t : Nat) (Ls : List Lay) (hT : TrAt W t kdT Ls) (a : Addr) (_hX : BAt W (some a) 1 [1]) (_ha : a.block ∉ feet t Ls) : Calls Tryz.prog 9 #[ptrV t, callV 12 ⟨#[47, 100]⟩ ⟨#[47, 122]⟩ 0 5 (.slice (some a) 1 1)] W fun e w' => KdQ 0 e ∧ Only (fun k => k ∈ feet t Ls) W w' :=
  (kd_err (E := (nodeE kdT.nodes (ofS ⟨#[47, 100]⟩)).2) (v := 0) (by kernel_rfl) (doo_fsyncS W t kdT Ls hT ⟨#[47, 100]⟩ ⟨#[47, 122]⟩ 0 5 (some a) 1 1 (by decide)))
theorem kd_d13 (W : World) (t : Nat) (Ls : List Lay) (hT : TrAt W t kdT Ls) (a : Addr) (_hX : BAt W (some a) 1 [1]) (_ha : a.block ∉ feet t Ls) : Calls Tryz.prog 9 #[ptrV t, callV 13 ⟨#[47, 100]⟩ ⟨#[47, 122]⟩ 0 5 (.slice (some a) 1 1)] W fun e w' => KdQ 0 e ∧ Only (fun k => k ∈ feet t Ls) W w' :=
  (kd_err (E := 0) (v := 0) (by rfl) (doo_syncS W t kdT Ls hT ⟨#[47, 100]⟩ ⟨#[47, 122]⟩ 0 5 (some a) 1 1 (by decide)))
theorem kd_dx (k : Int) (hk : k < 1 ∨ 13 < k) (hwf : (Lit.int .i64 k).wf = true) (W : World) (t : Nat) (Ls : List Lay) (hT : TrAt W t kdT Ls) (a : Addr) (_hX : BAt W (some a) 1 [1]) (_ha : a.block ∉ feet t Ls) : Calls Tryz.prog 9 #[ptrV t, callV k ⟨#[47, 100]⟩ ⟨#[47, 122]⟩ 0 5 (.slice (some a) 1 1)] W fun e w' => KdQ 1 e ∧ Only (fun k => k ∈ feet t Ls) W w' :=
  (kd_err (E := 1) (v := 1) (by rfl) (doo_otherS W t kdT Ls hT k hk hwf ⟨#[47, 100]⟩ ⟨#[47, 122]⟩ 0 5 (some a) 1 1))
def kdW (dir : Bool) (k : Int) : Int := if k = 1 ∨ k = 2 then 11 else if k = 3 ∨ k = 4 ∨ k = 7 ∨ k = 8 ∨ k = 9 then (if dir = true then 13 else 0) else if k = 5 ∨ k = 11 then (if dir = true then 0 else 12) else if k = 6 ∨ k = 10 ∨ k = 12 ∨ k = 13 then 0 else 1
theorem kd_f_all (k : Int) (hwf : (Lit.int .i64 k).wf = true) (W : World) (t : Nat) (Ls : List Lay) (hT : TrAt W t kdT Ls) (a : Addr) (hX : BAt W (some a) 1 [1]) (ha : a.block ∉ feet t Ls) : Calls Tryz.prog 9 #[ptrV t, callV k ⟨#[47, 102]⟩ ⟨#[47, 122]⟩ 0 5 (.slice (some a) 1 1)] W fun e w' => KdQ (kdW false k) e ∧ Only (fun k => k ∈ feet t Ls) W w' := by
  by_cases h1 : k = 1
  · subst h1; exact kd_f1 W t Ls hT a hX ha
  by_cases h2 : k = 2
  · subst h2; exact kd_f2 W t Ls hT a hX ha
  by_cases h3 : k = 3
  · subst h3; exact kd_f3 W t Ls hT a hX ha
  by_cases h4 : k = 4
  · subst h4; exact kd_f4 W t Ls hT a hX ha
  by_cases h5 : k = 5
  · subst h5; exact kd_f5 W t Ls hT a hX ha
  by_cases h6 : k = 6
  · subst h6; exact kd_f6 W t Ls hT a hX ha
  by_cases h7 : k = 7
  · subst h7; exact kd_f7 W t Ls hT a hX ha
  by_cases h8 : k = 8
  · subst h8; exact kd_f8 W t Ls hT a hX ha
  by_cases h9 : k = 9
  · subst h9; exact kd_f9 W t Ls hT a hX ha
  by_cases h10 : k = 10
  · subst h10; exact kd_f10 W t Ls hT a hX ha
  by_cases h11 : k = 11
  · subst h11; exact kd_f11 W t Ls hT a hX ha
  by_cases h12 : k = 12
  · subst h12; exact kd_f12 W t Ls hT a hX ha
  by_cases h13 : k = 13
  · subst h13; exact kd_f13 W t Ls hT a hX ha
  · have e : kdW false k = 1 := by unfold kdW; rw [if_neg (by omega), if_neg (by omega), if_neg (by omega), if_neg (by omega)]
    rw [e]
    exact kd_fx k (by omega) hwf W t Ls hT a hX ha
theorem kd_d_all (k : Int) (hwf : (Lit.int .i64 k).wf = true) (W : World) (t : Nat) (Ls : List Lay) (hT : TrAt W t kdT Ls) (a : Addr) (hX : BAt W (some a) 1 [1]) (ha : a.block ∉ feet t Ls) : Calls Tryz.prog 9 #[ptrV t, callV k ⟨#[47, 100]⟩ ⟨#[47, 122]⟩ 0 5 (.slice (some a) 1 1)] W fun e w' => KdQ (kdW true k) e ∧ Only (fun k => k ∈ feet t Ls) W w' := by
  by_cases h1 : k = 1
  · subst h1; exact kd_d1 W t Ls hT a hX ha
  by_cases h2 : k = 2
  · subst h2; exact kd_d2 W t Ls hT a hX ha
  by_cases h3 : k = 3
  · subst h3; exact kd_d3 W t Ls hT a hX ha
  by_cases h4 : k = 4
  · subst h4; exact kd_d4 W t Ls hT a hX ha
  by_cases h5 : k = 5
  · subst h5; exact kd_d5 W t Ls hT a hX ha
  by_cases h6 : k = 6
  · subst h6; exact kd_d6 W t Ls hT a hX ha
  by_cases h7 : k = 7
  · subst h7; exact kd_d7 W t Ls hT a hX ha
  by_cases h8 : k = 8
  · subst h8; exact kd_d8 W t Ls hT a hX ha
  by_cases h9 : k = 9
  · subst h9; exact kd_d9 W t Ls hT a hX ha
  by_cases h10 : k = 10
  · subst h10; exact kd_d10 W t Ls hT a hX ha
  by_cases h11 : k = 11
  · subst h11; exact kd_d11 W t Ls hT a hX ha
  by_cases h12 : k = 12
  · subst h12; exact kd_d12 W t Ls hT a hX ha
  by_cases h13 : k = 13
  · subst h13; exact kd_d13 W t Ls hT a hX ha
  · have e : kdW true k = 1 := by unfold kdW; rw [if_neg (by omega), if_neg (by omega), if_neg (by omega), if_neg (by omega)]
    rw [e]
    exact kd_dx k (by omega) hwf W t Ls hT a hX ha
end Go.Proofs.YtehaoeclnmelhacGreat
namespace Go.Proofs.YtehaoeclnmelhacGreat
open Go Go.Proofs Go.RowKit Go.Shelf Go.Sort

/-- A call behind a byte that was made for it. -/
theorem kd_own {w W : World} {t : Nat} {k : Int} {p z : ByteArray} {v : Int} (h : OwnT w W t kdT (fun _ => False)) (o : Obj) (H : ∀ (W : World) (t : Nat) (Ls : List Lay), TrAt W t kdT Ls → ∀ (a : Addr), BAt W (some a) 1 [1] → a.block ∉ feet t Ls → Calls Tryz.prog 9 #[.pointer (some ⟨t, 0, none⟩), .agg #[.int .i64 k, .string p, .string z, .int .i64 0, .int .i64 5, .slice (some a) 1 1]] W fun e w' => KdQ v e ∧ Only (fun k => k ∈ feet t Ls) W w') (ho : o = .cells #[.int .u8 1] 5 := by rfl) :
    Calls Tryz.prog 9 #[.pointer (some ⟨t, 0, none⟩), .agg #[.int .i64 k, .string p, .string z, .int .i64 0, .int .i64 5, .slice (some ⟨W.heap.size, 0, none⟩) 1 1]] (W.alloc o) fun e w' => KdQ v e ∧ Below w.heap.size w w' := by
  subst ho
  have hb := h.box (.cells #[.int .u8 1] 5)
  obtain ⟨hO, Ls, hT, hf⟩ := hb
  refine (H _ t Ls hT ⟨W.heap.size, 0, none⟩ ⟨rfl, fun _ => ⟨_, rfl, by simp, fun i hi => ?_⟩⟩ (fun hh => (hf _ hh).2 (.inr rfl))).mono ?_
  · obtain rfl : i = 0 := by omega
    rw [add_at, blk_cell (blk_new W _)]
    rfl
  · rintro e w' ⟨h1, h2⟩
    exact ⟨h1, hO.trans (h2.below hO.size (fun k hk => (hf k hk).1))⟩
set_option maxRecDepth 100000 in
set_option maxHeartbeats 4000000 in
theorem kinds_f (w : World) (kd : Int) (hwf : (Lit.int .i64 kd).wf = true) : Calls Tryz.prog 6 #[.int .i64 kd, .bool false] w fun e w' => e = .returned (.bool true) ∧ Below w.heap.size w w' := by
  have HA := Hid.mk (alive_any w)
  have HKD := Hid.mk (fun W t Ls hT => kd_f_all kd hwf W t Ls hT)
  obtain ⟨v, hv⟩ : ∃ v, v = kdW false kd := ⟨_, rfl⟩
  rw [← hv] at HKD
  have HV := Hid.mk hv
  clear hv hwf
  unfold callV ptrV at HKD
  go_enter Tryz.func6, Tryz.ntmps6
  go_upto_region 3 with (first
    | (go_at_call 7; refine HA.out.mono ?_; rintro e W0 ⟨rfl, hw⟩; have HB := Hid.mk hw; clear hw)
    | (go_at_call 13; refine (lG_any _ _).mono ?_; rintro e W1 ⟨rfl, hB1⟩; have B1 := Hid.mk (HB.out.trans (hB1.mono HB.out.size)); clear hB1)
    | (go_at_call 8; refine (new_any _ 1 1 40).mono ?_; rintro e W2 ⟨rfl, hT2, hB2⟩; have O : Hid (OwnT w W2 (W1.heap.size + 4) (newT 1 1 40) (fun _ => False)) := Hid.mk ⟨B1.out.trans (hB2.mono B1.out.size), _, hT2, fun k hk => ⟨by simp [feet, Lay.foot] at hk; have := B1.out.size; omega, fun h => h⟩⟩; unfold ptrV; clear hT2 hB2))
  generalize W1.heap.size + 4 = t at *
  clear HB B1 HA
  go_upto_region 5 with (first
    | (go_at_call 10; refine (lC_any _ _ _).mono ?_; rintro e W3 ⟨rfl, hB3⟩; have O1 := Hid.mk (O.out.then hB3); unfold callV; clear hB3 O)
    | (go_at_call 9; refine (own_do (σ' := kd1) O1.out (fun k h => h.elim) (fun Ls hT => by have := doo_create _ t _ Ls hT (new_ok _ _ _) ⟨#[47, 102]⟩ ⟨#[]⟩ 0 0 none 0 0 (by decide); rw [kd1_is] at this; exact this)).mono ?_; rintro e W4 ⟨rfl, hO, -, -⟩; have O := Hid.mk hO; unfold errV; clear hO O1))
  go_upto_region 6 with (first
    | (go_at_call 10; refine (lC_any _ _ _).mono ?_; rintro e W3 ⟨rfl, hB3⟩; have O1 := Hid.mk (O.out.then hB3); unfold callV; clear hB3 O)
    | (go_at_call 9; refine (own_do (σ' := kdT) O1.out (fun k h => h.elim) (fun Ls hT => by have := doo_mkdir _ t _ Ls hT kd1_ok ⟨#[47, 100]⟩ ⟨#[]⟩ 0 0 none 0 0 (by decide); rw [kd2_is] at this; exact this)).mono ?_; rintro e W4 ⟨rfl, hO, -, -⟩; have O := Hid.mk hO; unfold errV; clear hO O1))
  go_upto_region 9 with (go_at_call 9; refine (kd_own O.out _ HKD.out).mono ?_; rintro e W7 ⟨⟨r1, r2, r3, r4, r5, r6, r7, r8, r9, r10, rfl⟩, hB7⟩; have B7 := Hid.mk hB7; clear hB7)
  obtain ⟨Z, hZ⟩ : ∃ Z, Z = W7.alloc (.cells #[.int .i64 v, .slice r1 r2 r3, .int .i64 r4, .int .i64 r5, .int .i64 r6, .slice r7 r8 r9, .int .i64 r10] 31) := ⟨_, rfl⟩
  have q7 : Z.heap[W7.heap.size]? = some (.cells #[.int .i64 v, .slice r1 r2 r3, .int .i64 r4, .int .i64 r5, .int .i64 r6, .slice r7 r8 r9, .int .i64 r10] 31 (0, 0)) := by rw [hZ]; exact blk_new W7 _
  have PZ : Hid (Below w.heap.size w Z) := Hid.mk (by rw [hZ]; exact B7.out.alloc B7.out.size _)
  rw [← hZ]
  generalize W7.heap.size = b7 at *
  have d7 := blk_cell q7 0
  simp at d7
  clear hZ q7 B7 O HKD
  by_cases h1 : kd = 1
  · subst h1
    obtain rfl : v = 11 := HV.out
    go_wp2_with (go_at_call 11; refine (lnum_any _ _).mono ?_; rintro e W9 ⟨rfl, hw⟩; subst hw)
    go_ret
    exact ⟨rfl, PZ.out⟩
  by_cases h2 : kd = 2
  · subst h2
    obtain rfl : v = 11 := HV.out
    clear h1
    go_wp2_with (go_at_call 11; refine (lnum_any _ _).mono ?_; rintro e W9 ⟨rfl, hw⟩; subst hw)
    go_ret
    exact ⟨rfl, PZ.out⟩
  by_cases h3 : kd = 3
  · subst h3
    obtain rfl : v = 0 := HV.out
    clear h1 h2
    go_wp2_with (go_at_call 11; refine (lnum_any _ _).mono ?_; rintro e W9 ⟨rfl, hw⟩; subst hw)
    go_ret
    exact ⟨rfl, PZ.out⟩
  by_cases h4 : kd = 4
  · subst h4
    obtain rfl : v = 0 := HV.out
    clear h1 h2 h3
    go_wp2_with (go_at_call 11; refine (lnum_any _ _).mono ?_; rintro e W9 ⟨rfl, hw⟩; subst hw)
    go_ret
    exact ⟨rfl, PZ.out⟩
  by_cases h5 : kd = 5
  · subst h5
    obtain rfl : v = 12 := HV.out
    clear h1 h2 h3 h4
    go_wp2_with (go_at_call 11; refine (lnum_any _ _).mono ?_; rintro e W9 ⟨rfl, hw⟩; subst hw)
    go_ret
    exact ⟨rfl, PZ.out⟩
  by_cases h6 : kd = 6
  · subst h6
    obtain rfl : v = 0 := HV.out
    clear h1 h2 h3 h4 h5
    go_wp2_with (go_at_call 11; refine (lnum_any _ _).mono ?_; rintro e W9 ⟨rfl, hw⟩; subst hw)
    go_ret
    exact ⟨rfl, PZ.out⟩
  by_cases h7 : kd = 7
  · subst h7
    obtain rfl : v = 0 := HV.out
    clear h1 h2 h3 h4 h5 h6
    go_wp2_with (go_at_call 11; refine (lnum_any _ _).mono ?_; rintro e W9 ⟨rfl, hw⟩; subst hw)
    go_ret
    exact ⟨rfl, PZ.out⟩
  by_cases h8 : kd = 8
  · subst h8
    obtain rfl : v = 0 := HV.out
    clear h1 h2 h3 h4 h5 h6 h7
    go_wp2_with (go_at_call 11; refine (lnum_any _ _).mono ?_; rintro e W9 ⟨rfl, hw⟩; subst hw)
    go_ret
    exact ⟨rfl, PZ.out⟩
  by_cases h9 : kd = 9
  · subst h9
    obtain rfl : v = 0 := HV.out
    clear h1 h2 h3 h4 h5 h6 h7 h8
    go_wp2_with (go_at_call 11; refine (lnum_any _ _).mono ?_; rintro e W9 ⟨rfl, hw⟩; subst hw)
    go_ret
    exact ⟨rfl, PZ.out⟩
  by_cases h10 : kd = 10
  · subst h10
    obtain rfl : v = 0 := HV.out
    clear h1 h2 h3 h4 h5 h6 h7 h8 h9
    go_wp2_with (go_at_call 11; refine (lnum_any _ _).mono ?_; rintro e W9 ⟨rfl, hw⟩; subst hw)
    go_ret
    exact ⟨rfl, PZ.out⟩
  by_cases h11 : kd = 11
  · subst h11
    obtain rfl : v = 12 := HV.out
    clear h1 h2 h3 h4 h5 h6 h7 h8 h9 h10
    go_wp2_with (go_at_call 11; refine (lnum_any _ _).mono ?_; rintro e W9 ⟨rfl, hw⟩; subst hw)
    go_ret
    exact ⟨rfl, PZ.out⟩
  by_cases h12 : kd = 12
  · subst h12
    obtain rfl : v = 0 := HV.out
    clear h1 h2 h3 h4 h5 h6 h7 h8 h9 h10 h11
    go_wp2_with (go_at_call 11; refine (lnum_any _ _).mono ?_; rintro e W9 ⟨rfl, hw⟩; subst hw)
    go_ret
    exact ⟨rfl, PZ.out⟩
  by_cases h13 : kd = 13
  · subst h13
    obtain rfl : v = 0 := HV.out
    clear h1 h2 h3 h4 h5 h6 h7 h8 h9 h10 h11 h12
    go_wp2_with (go_at_call 11; refine (lnum_any _ _).mono ?_; rintro e W9 ⟨rfl, hw⟩; subst hw)
    go_ret
    exact ⟨rfl, PZ.out⟩
  have hv : v = 1 := by rw [HV.out]; unfold kdW; rw [if_neg (by omega), if_neg (by omega), if_neg (by omega), if_neg (by omega)]
  subst hv
  go_wp2_with (go_at_call 11; refine (lnum_any _ _).mono ?_; rintro e W9 ⟨rfl, hw⟩; subst hw)
  go_ret
  exact ⟨rfl, PZ.out⟩
set_option maxRecDepth 100000 in
set_option maxHeartbeats 4000000 in
theorem kinds_d (w : World) (kd : Int) (hwf : (Lit.int .i64 kd).wf = true) : Calls Tryz.prog 6 #[.int .i64 kd, .bool true] w fun e w' => e = .returned (.bool true) ∧ Below w.heap.size w w' := by
  have HA := Hid.mk (alive_any w)
  have HKD := Hid.mk (fun W t Ls hT => kd_d_all kd hwf W t Ls hT)
  obtain ⟨v, hv⟩ : ∃ v, v = kdW true kd := ⟨_, rfl⟩
  rw [← hv] at HKD
  have HV := Hid.mk hv
  clear hv hwf
  unfold callV ptrV at HKD
  go_enter Tryz.func6, Tryz.ntmps6
  go_upto_region 3 with (first
    | (go_at_call 7; refine HA.out.mono ?_; rintro e W0 ⟨rfl, hw⟩; have HB := Hid.mk hw; clear hw)
    | (go_at_call 13; refine (lG_any _ _).mono ?_; rintro e W1 ⟨rfl, hB1⟩; have B1 := Hid.mk (HB.out.trans (hB1.mono HB.out.size)); clear hB1)
    | (go_at_call 8; refine (new_any _ 1 1 40).mono ?_; rintro e W2 ⟨rfl, hT2, hB2⟩; have O : Hid (OwnT w W2 (W1.heap.size + 4) (newT 1 1 40) (fun _ => False)) := Hid.mk ⟨B1.out.trans (hB2.mono B1.out.size), _, hT2, fun k hk => ⟨by simp [feet, Lay.foot] at hk; have := B1.out.size; omega, fun h => h⟩⟩; unfold ptrV; clear hT2 hB2))
  generalize W1.heap.size + 4 = t at *
  clear HB B1 HA
  go_upto_region 5 with (first
    | (go_at_call 10; refine (lC_any _ _ _).mono ?_; rintro e W3 ⟨rfl, hB3⟩; have O1 := Hid.mk (O.out.then hB3); unfold callV; clear hB3 O)
    | (go_at_call 9; refine (own_do (σ' := kd1) O1.out (fun k h => h.elim) (fun Ls hT => by have := doo_create _ t _ Ls hT (new_ok _ _ _) ⟨#[47, 102]⟩ ⟨#[]⟩ 0 0 none 0 0 (by decide); rw [kd1_is] at this; exact this)).mono ?_; rintro e W4 ⟨rfl, hO, -, -⟩; have O := Hid.mk hO; unfold errV; clear hO O1))
  go_upto_region 6 with (first
    | (go_at_call 10; refine (lC_any _ _ _).mono ?_; rintro e W3 ⟨rfl, hB3⟩; have O1 := Hid.mk (O.out.then hB3); unfold callV; clear hB3 O)
    | (go_at_call 9; refine (own_do (σ' := kdT) O1.out (fun k h => h.elim) (fun Ls hT => by have := doo_mkdir _ t _ Ls hT kd1_ok ⟨#[47, 100]⟩ ⟨#[]⟩ 0 0 none 0 0 (by decide); rw [kd2_is] at this; exact this)).mono ?_; rintro e W4 ⟨rfl, hO, -, -⟩; have O := Hid.mk hO; unfold errV; clear hO O1))
  go_upto_region 9 with (go_at_call 9; refine (kd_own O.out _ HKD.out).mono ?_; rintro e W7 ⟨⟨r1, r2, r3, r4, r5, r6, r7, r8, r9, r10, rfl⟩, hB7⟩; have B7 := Hid.mk hB7; clear hB7)
  obtain ⟨Z, hZ⟩ : ∃ Z, Z = W7.alloc (.cells #[.int .i64 v, .slice r1 r2 r3, .int .i64 r4, .int .i64 r5, .int .i64 r6, .slice r7 r8 r9, .int .i64 r10] 31) := ⟨_, rfl⟩
  have q7 : Z.heap[W7.heap.size]? = some (.cells #[.int .i64 v, .slice r1 r2 r3, .int .i64 r4, .int .i64 r5, .int .i64 r6, .slice r7 r8 r9, .int .i64 r10] 31 (0, 0)) := by rw [hZ]; exact blk_new W7 _
  have PZ : Hid (Below w.heap.size w Z) := Hid.mk (by rw [hZ]; exact B7.out.alloc B7.out.size _)
  rw [← hZ]
  generalize W7.heap.size = b7 at *
  have d7 := blk_cell q7 0
  simp at d7
  clear hZ q7 B7 O HKD
  by_cases h1 : kd = 1
  · subst h1
    obtain rfl : v = 11 := HV.out
    go_wp2_with (go_at_call 11; refine (lnum_any _ _).mono ?_; rintro e W9 ⟨rfl, hw⟩; subst hw)
    go_ret
    exact ⟨rfl, PZ.out⟩
  by_cases h2 : kd = 2
  · subst h2
    obtain rfl : v = 11 := HV.out
    clear h1
    go_wp2_with (go_at_call 11; refine (lnum_any _ _).mono ?_; rintro e W9 ⟨rfl, hw⟩; subst hw)
    go_ret
    exact ⟨rfl, PZ.out⟩
  by_cases h3 : kd = 3
  · subst h3
    obtain rfl : v = 13 := HV.out
    clear h1 h2
    go_wp2_with (go_at_call 11; refine (lnum_any _ _).mono ?_; rintro e W9 ⟨rfl, hw⟩; subst hw)
    go_ret
    exact ⟨rfl, PZ.out⟩
  by_cases h4 : kd = 4
  · subst h4
    obtain rfl : v = 13 := HV.out
    clear h1 h2 h3
    go_wp2_with (go_at_call 11; refine (lnum_any _ _).mono ?_; rintro e W9 ⟨rfl, hw⟩; subst hw)
    go_ret
    exact ⟨rfl, PZ.out⟩
  by_cases h5 : kd = 5
  · subst h5
    obtain rfl : v = 0 := HV.out
    clear h1 h2 h3 h4
    go_wp2_with (go_at_call 11; refine (lnum_any _ _).mono ?_; rintro e W9 ⟨rfl, hw⟩; subst hw)
    go_ret
    exact ⟨rfl, PZ.out⟩
  by_cases h6 : kd = 6
  · subst h6
    obtain rfl : v = 0 := HV.out
    clear h1 h2 h3 h4 h5
    go_wp2_with (go_at_call 11; refine (lnum_any _ _).mono ?_; rintro e W9 ⟨rfl, hw⟩; subst hw)
    go_ret
    exact ⟨rfl, PZ.out⟩
  by_cases h7 : kd = 7
  · subst h7
    obtain rfl : v = 13 := HV.out
    clear h1 h2 h3 h4 h5 h6
    go_wp2_with (go_at_call 11; refine (lnum_any _ _).mono ?_; rintro e W9 ⟨rfl, hw⟩; subst hw)
    go_ret
    exact ⟨rfl, PZ.out⟩
  by_cases h8 : kd = 8
  · subst h8
    obtain rfl : v = 13 := HV.out
    clear h1 h2 h3 h4 h5 h6 h7
    go_wp2_with (go_at_call 11; refine (lnum_any _ _).mono ?_; rintro e W9 ⟨rfl, hw⟩; subst hw)
    go_ret
    exact ⟨rfl, PZ.out⟩
  by_cases h9 : kd = 9
  · subst h9
    obtain rfl : v = 13 := HV.out
    clear h1 h2 h3 h4 h5 h6 h7 h8
    go_wp2_with (go_at_call 11; refine (lnum_any _ _).mono ?_; rintro e W9 ⟨rfl, hw⟩; subst hw)
    go_ret
    exact ⟨rfl, PZ.out⟩
  by_cases h10 : kd = 10
  · subst h10
    obtain rfl : v = 0 := HV.out
    clear h1 h2 h3 h4 h5 h6 h7 h8 h9
    go_wp2_with (go_at_call 11; refine (lnum_any _ _).mono ?_; rintro e W9 ⟨rfl, hw⟩; subst hw)
    go_ret
    exact ⟨rfl, PZ.out⟩
  by_cases h11 : kd = 11
  · subst h11
    obtain rfl : v = 0 := HV.out
    clear h1 h2 h3 h4 h5 h6 h7 h8 h9 h10
    go_wp2_with (go_at_call 11; refine (lnum_any _ _).mono ?_; rintro e W9 ⟨rfl, hw⟩; subst hw)
    go_ret
    exact ⟨rfl, PZ.out⟩
  by_cases h12 : kd = 12
  · subst h12
    obtain rfl : v = 0 := HV.out
    clear h1 h2 h3 h4 h5 h6 h7 h8 h9 h10 h11
    go_wp2_with (go_at_call 11; refine (lnum_any _ _).mono ?_; rintro e W9 ⟨rfl, hw⟩; subst hw)
    go_ret
    exact ⟨rfl, PZ.out⟩
  by_cases h13 : kd = 13
  · subst h13
    obtain rfl : v = 0 := HV.out
    clear h1 h2 h3 h4 h5 h6 h7 h8 h9 h10 h11 h12
    go_wp2_with (go_at_call 11; refine (lnum_any _ _).mono ?_; rintro e W9 ⟨rfl, hw⟩; subst hw)
    go_ret
    exact ⟨rfl, PZ.out⟩
  have hv : v = 1 := by rw [HV.out]; unfold kdW; rw [if_neg (by omega), if_neg (by omega), if_neg (by omega), if_neg (by omega)]
  subst hv
  go_wp2_with (go_at_call 11; refine (lnum_any _ _).mono ?_; rintro e W9 ⟨rfl, hw⟩; subst hw)
  go_ret
  exact ⟨rfl, PZ.out⟩
theorem kinds_law (w : World) (kd : Int) (hwf : (Lit.int .i64 kd).wf = true) (d : Bool) : Calls Tryz.prog 6 #[.int .i64 kd, .bool d] w fun e w' => e = .returned (.bool true) ∧ Below w.heap.size w w' := by
  cases d
  · exact kinds_f w kd hwf
  · exact kinds_d w kd hwf
end Go.Proofs.YtehaoeclnmelhacGreat
