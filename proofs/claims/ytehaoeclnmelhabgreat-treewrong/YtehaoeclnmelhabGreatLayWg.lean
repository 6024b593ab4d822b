/-
  The calls of TreeWrong: what each of them answers.
-/
import Derived.Test.YtehaoeclnmelhabGreatLayRn
import Derived.Test.YtehaoeclnmelhabGreatTrTot
import Derived.Test.YtehaoeclnmelhabGreatTrAlive
import Derived.Test.YtehaoeclnmelhabGreatTrRdDo
namespace Go.Proofs.YtehaoeclnmelhabGreat
open Go Go.Proofs Go.RowKit Go.Shelf Go.Sort

theorem wpList_knownR {P : Program} {w : World} {ops : Array Oper} {rest : List Oper} {o : Oper} {a : Act} {Q : Exit → Act → World → Prop} (hw : Region.wanted o (yielded ops a.tmps) = true) (v : Value) (w' : World)
    (hrun : (execOp a.eval o).run P w = .ok (.value v) w') (h : wpList P ops Q rest (a.put o.dst v) w') : wpList P ops Q (o :: rest) a w := by
  refine BigFrame.wpList_want hw fun K hK => ?_
  unfold Oper.wp
  rw [hrun, Oper.upon_value]
  exact hK _ _ h
/-- A row that is built whole. -/
theorem exec_bs {ev : Operand → Value} {oi : Oper} {tS tE : TypeId} {n sz : Nat} {z : Value} {ps : Array (Nat × Operand)} {Z : List (Nat × Value)} {cells : Array Value} {W : World} {i0 : TypeInfo} (ho : oi.op = .buildSlice tS n ps) (hu : Tryz.prog.underlying tS = some (.slice tE)) (hi : Tryz.prog.info? tE = some i0) (hz : i0.zero = some z) (hs : i0.size = sz) (hzs : z.cells.size = sz) (h0 : 0 < n * sz) (h1 : n * sz ≤ 16777216) (hp : (ps.map fun x => (x.1, ev x.2)).toList = Z) (hf : Instr.fill (fun i => some (i * sz, sz)) ((Array.range (n * sz)).map (fun x => z.cells[x % sz]!)) Z = some cells) : (execOp ev oi).run Tryz.prog W = .ok (.value (.slice (some ⟨W.heap.size, 0, none⟩) n n)) (W.alloc (.cells cells tE)) := by
  subst hzs
  rw [Array.toList_map] at hp
  subst hp
  unfold execOp
  rw [ho]
  have e : ¬ (2 ^ 24 < n * z.cells.size) := by omega
  have e2 : ¬ (n * z.cells.size = 0) := by omega
  simp only []
  simp [Instr.buildSlice, run_underlying hu, zeroValue, typeInfo, hi, hz, hs, newRow, sizeOf, e, e2]
  rw [hf]
  simp
theorem flat6 {f : Nat → List Value} (hf : ∀ k, (f k).length = 6) : ∀ n, ((List.range n).flatMap f).length = n * 6 ∧ ∀ k j, k < n → j < 6 → ((List.range n).flatMap f)[k * 6 + j]? = (f k)[j]? := by
  intro n
  induction n with
  | zero => exact ⟨rfl, fun k j h => by omega⟩
  | succ n ih =>
    rw [List.range_succ, List.flatMap_append]
    refine ⟨by rw [List.length_append, ih.1]; simp [hf]; omega, fun k j hk hj => ?_⟩
    by_cases h : k < n
    · rw [List.getElem?_append_left (by rw [ih.1]; omega)]
      exact ih.2 k j h hj
    · obtain rfl : k = n := by omega
      rw [List.getElem?_append_right (by rw [ih.1]; omega), ih.1, show k * 6 + j - k * 6 = j from by omega]
      simp
def wg1 : Tr := (enterS (newT 1 1 20) [47, 100] newD).2
def wg2 : Tr := (enterS wg1 [47, 101] newD).2
def wg3 : Tr := (enterS wg2 [47, 100, 47, 102] newF).2
def wgT : Tr := ⟨1, 1, 20, 5, 3, [.dir 4 1024 (some (1, [100]) :: some (2, [101]) :: some (4, [103]) :: List.replicate 27 none), .dir 2 1024 (some (3, [102]) :: List.replicate 29 none), newD, newF, newF]⟩
theorem wg_is : (enterS wg3 [47, 103] newF).2 = wgT := by kernel_rfl
theorem wg1_nodes : wg1.nodes = [.dir 3 1024 (some (1, [100]) :: List.replicate 29 none), newD] := by kernel_rfl
theorem wg2_nodes : wg2.nodes = [.dir 4 1024 (some (1, [100]) :: some (2, [101]) :: List.replicate 28 none), newD, newD] := by kernel_rfl
theorem wg3_nodes : wg3.nodes = [.dir 4 1024 (some (1, [100]) :: some (2, [101]) :: List.replicate 28 none), .dir 2 1024 (some (3, [102]) :: List.replicate 29 none), newD, newF] := by kernel_rfl
theorem newD_ok : newD.Ok := by unfold newD; exact ⟨by omega, by omega, by simp⟩
theorem newF_ok : newF.Ok := by unfold newF; exact ⟨⟨List.Pairwise.nil, fun x h => (List.not_mem_nil h).elim⟩, by simp⟩
theorem wg1_ok : ∀ x ∈ wg1.nodes, x.Ok := by
  rw [wg1_nodes]
  intro x hx
  simp only [List.mem_cons, List.not_mem_nil, or_false] at hx
  rcases hx with rfl | rfl
  · exact ⟨by omega, by omega, by simp⟩
  · exact newD_ok
theorem wg2_ok : ∀ x ∈ wg2.nodes, x.Ok := by
  rw [wg2_nodes]
  intro x hx
  simp only [List.mem_cons, List.not_mem_nil, or_false] at hx
  rcases hx with rfl | rfl | rfl
  · exact ⟨by omega, by omega, by simp⟩
  · exact newD_ok
  · exact newD_ok
theorem wg3_ok : ∀ x ∈ wg3.nodes, x.Ok := by
  rw [wg3_nodes]
  intro x hx
  simp only [List.mem_cons, List.not_mem_nil, or_false] at hx
  rcases hx with rfl | rfl | rfl | rfl
  · exact ⟨by omega, by omega, by simp⟩
  · exact ⟨by omega, by omega, by simp⟩
  · exact newD_ok
  · exact newF_ok
theorem wg_ok : ∀ x ∈ wgT.nodes, x.Ok := by
  unfold wgT
  intro x hx
  simp only [List.mem_cons, List.not_mem_nil, or_false] at hx
  rcases hx with rfl | rfl | rfl | rfl | rfl
  · exact ⟨by omega, by omega, by simp⟩
  · exact ⟨by omega, by omega, by simp⟩
  · exact newD_ok
  · exact newF_ok
  · exact newF_ok
/-- One of the calls answers so. -/
def WgQ (k : Int) (s s2 : ByteArray) (off n : Int) (d : Value) (v : Int) : Prop := ∃ S : Tr, ∀ (W : World) (t : Nat) (Ls : List Lay), TrAt W t wgT Ls → Calls Tryz.prog 12 #[ptrV t, callV k s s2 off n d] W fun e w' => e = .returned (errV v) ∧ Step (fun k => k ∈ feet t Ls) W t w' S
theorem wg_mk {k : Int} {s s2 : ByteArray} {off n : Int} {d : Value} {v : Int} (E : Int) (S : Tr) (hE : E = v) (h : ∀ (W : World) (t : Nat) (Ls : List Lay), TrAt W t wgT Ls → Calls Tryz.prog 12 #[ptrV t, callV k s s2 off n d] W fun e w' => e = .returned (errV E) ∧ Step (fun k => k ∈ feet t Ls) W t w' S) : WgQ k s s2 off n d v := ⟨S, by rw [← hE]; exact h⟩
def wgK (k : Nat) : Int := ([1, 1, 1, 1, 1, 2, 4, 4, 4, 5, 5, 5, 5, 3, 3, 3, 3, 3, 6, 6, 6, 6, 6, 6, 6, 6, 7, 7, 7, 8, 8, 8, 9, 9, 9, 11, 10, 12, 14, 10, 10, 10] : List Int).getD k 0
def wgP (k : Nat) : ByteArray := ([⟨#[]⟩, ⟨#[47]⟩, ⟨#[47, 120, 47, 121]⟩, ⟨#[47, 103, 47, 121]⟩, ⟨#[47, 100]⟩, ⟨#[47, 100, 47, 102]⟩, ⟨#[47]⟩, ⟨#[47, 100]⟩, ⟨#[47, 120]⟩, ⟨#[47]⟩, ⟨#[47, 103]⟩, ⟨#[47, 100]⟩, ⟨#[47, 120]⟩, ⟨#[47, 100]⟩, ⟨#[47, 120]⟩, ⟨#[47, 103]⟩, ⟨#[47, 103]⟩, ⟨#[47, 103]⟩, ⟨#[47]⟩, ⟨#[47, 103]⟩, ⟨#[47, 120]⟩, ⟨#[47, 100]⟩, ⟨#[47, 100]⟩, ⟨#[47, 103]⟩, ⟨#[47, 101]⟩, ⟨#[47, 103]⟩, ⟨#[47, 100]⟩, ⟨#[47, 103]⟩, ⟨#[47, 103]⟩, ⟨#[47, 100]⟩, ⟨#[47, 103]⟩, ⟨#[47, 103]⟩, ⟨#[47, 103]⟩, ⟨#[47, 100]⟩, ⟨#[47, 103]⟩, ⟨#[47, 103]⟩, ⟨#[47, 103, 47, 120]⟩, ⟨#[47, 120]⟩, ⟨#[]⟩, ⟨#[47, 97, 47, 47, 98]⟩, ⟨#[47, 97, 47]⟩, ⟨#[47, 46, 47, 97]⟩] : List ByteArray).getD k ⟨#[]⟩
def wgQ (k : Nat) : ByteArray := ([⟨#[]⟩, ⟨#[]⟩, ⟨#[]⟩, ⟨#[]⟩, ⟨#[]⟩, ⟨#[]⟩, ⟨#[]⟩, ⟨#[]⟩, ⟨#[]⟩, ⟨#[]⟩, ⟨#[]⟩, ⟨#[]⟩, ⟨#[]⟩, ⟨#[47, 104]⟩, ⟨#[47, 104]⟩, ⟨#[47]⟩, ⟨#[47, 101]⟩, ⟨#[47, 120, 47, 104]⟩, ⟨#[47, 104]⟩, ⟨#[47]⟩, ⟨#[47, 104]⟩, ⟨#[47, 100, 47, 104]⟩, ⟨#[47, 103]⟩, ⟨#[47, 100]⟩, ⟨#[47, 100]⟩, ⟨#[47, 120, 47, 104]⟩, ⟨#[]⟩, ⟨#[]⟩, ⟨#[]⟩, ⟨#[]⟩, ⟨#[]⟩, ⟨#[]⟩, ⟨#[]⟩, ⟨#[]⟩, ⟨#[]⟩, ⟨#[]⟩, ⟨#[]⟩, ⟨#[]⟩, ⟨#[]⟩, ⟨#[]⟩, ⟨#[]⟩, ⟨#[]⟩] : List ByteArray).getD k ⟨#[]⟩
def wgO (k : Nat) : Int := ([0, 0, 0, 0, 0, 0, 0, 0, 0, 0, 0, 0, 0, 0, 0, 0, 0, 0, 0, 0, 0, 0, 0, 0, 0, 0, 0, (-1), 0, 0, (-1), 67379199, 0, 0, 0, 0, 0, 0, 0, 0, 0, 0] : List Int).getD k 0
def wgN (k : Nat) : Int := ([0, 0, 0, 0, 0, 0, 0, 0, 0, 0, 0, 0, 0, 0, 0, 0, 0, 0, 0, 0, 0, 0, 0, 0, 0, 0, 1, 1, 8193, 0, 0, 0, (-1), 0, 67379201, 0, 0, 0, 0, 0, 0, 0] : List Int).getD k 0
def wgD (a k : Nat) : Value := match k with | 31 => .slice (some ⟨a, 0, none⟩) 2 2 | _ => .slice none 0 0
def wgW (k : Nat) : Int := ([15, 11, 10, 12, 11, 11, 18, 13, 10, 18, 12, 14, 10, 13, 10, 11, 11, 10, 18, 18, 10, 19, 12, 13, 14, 10, 13, 1, 1, 13, 1, 17, 1, 13, 17, 12, 12, 10, 1, 15, 15, 15] : List Int).getD k 0
def wgF (a k : Nat) : List Value := [.int .i64 (wgK k), .string (wgP k), .string (wgQ k), .int .i64 (wgO k), .int .i64 (wgN k), wgD a k]
def wgCells (a : Nat) : Array Value := ((List.range 42).flatMap (wgF a)).toArray
def wgWs : Array Value := ((List.range 42).map (fun k => Value.int .i64 (wgW k))).toArray
theorem wgF_len (a k : Nat) : (wgF a k).length = 6 := rfl
theorem wg_cell (a k j : Nat) (hk : k < 42) (hj : j < 6) : (wgCells a)[k * 6 + j]? = (wgF a k)[j]? := by
  unfold wgCells
  rw [List.getElem?_toArray]
  exact (flat6 (wgF_len a) 42).2 k j hk hj
theorem wg_want (k : Nat) (hk : k < 42) : wgWs[k]? = some (.int .i64 (wgW k)) := by
  unfold wgWs
  rw [List.getElem?_toArray, List.getElem?_map, List.getElem?_range hk]
  rfl
theorem wg_c0 : WgQ 1 ⟨#[]⟩ ⟨#[]⟩ 0 0 (.slice none 0 0) 15 := wg_mk ((enterS wgT (ofS ⟨#[]⟩) newF).1) _ (by kernel_rfl) (fun W t Ls hT => doo_create W t wgT Ls hT wg_ok ⟨#[]⟩ ⟨#[]⟩ 0 0 none 0 0 (by decide))
theorem wg_c1 : WgQ 1 ⟨#[47]⟩ ⟨#[]⟩ 0 0 (.slice none 0 0) 11 := wg_mk ((enterS wgT (ofS ⟨#[47]⟩) newF).1) _ (by kernel_rfl) (fun W t Ls hT => doo_create W t wgT Ls hT wg_ok ⟨#[47]⟩ ⟨#[]⟩ 0 0 none 0 0 (by decide))
theorem wg_c2 : WgQ 1 ⟨#[47, 120, 47, 121]⟩ ⟨#[]⟩ 0 0 (.slice none 0 0) 10 := wg_mk ((enterS wgT (ofS ⟨#[47, 120, 47, 121]⟩) newF).1) _ (by kernel_rfl) (fun W t Ls hT => doo_create W t wgT Ls hT wg_ok ⟨#[47, 120, 47, 121]⟩ ⟨#[]⟩ 0 0 none 0 0 (by decide))
theorem wg_c3 : WgQ 1 ⟨#[47, 103, 47, 121]⟩ ⟨#[]⟩ 0 0 (.slice none 0 0) 12 := wg_mk ((enterS wgT (ofS ⟨#[47, 103, 47, 121]⟩) newF).1) _ (by kernel_rfl) (fun W t Ls hT => doo_create W t wgT Ls hT wg_ok ⟨#[47, 103, 47, 121]⟩ ⟨#[]⟩ 0 0 none 0 0 (by decide))
theorem wg_c4 : WgQ 1 ⟨#[47, 100]⟩ ⟨#[]⟩ 0 0 (.slice none 0 0) 11 := wg_mk ((enterS wgT (ofS ⟨#[47, 100]⟩) newF).1) _ (by kernel_rfl) (fun W t Ls hT => doo_create W t wgT Ls hT wg_ok ⟨#[47, 100]⟩ ⟨#[]⟩ 0 0 none 0 0 (by decide))
theorem wg_c5 : WgQ 2 ⟨#[47, 100, 47, 102]⟩ ⟨#[]⟩ 0 0 (.slice none 0 0) 11 := wg_mk ((enterS wgT (ofS ⟨#[47, 100, 47, 102]⟩) newD).1) _ (by kernel_rfl) (fun W t Ls hT => doo_mkdir W t wgT Ls hT wg_ok ⟨#[47, 100, 47, 102]⟩ ⟨#[]⟩ 0 0 none 0 0 (by decide))
theorem wg_c6 : WgQ 4 ⟨#[47]⟩ ⟨#[]⟩ 0 0 (.slice none 0 0) 18 := wg_mk ((unlinkS wgT (ofS ⟨#[47]⟩)).1) _ (by kernel_rfl) (fun W t Ls hT => doo_unlinkS W t wgT Ls hT wg_ok ⟨#[47]⟩ ⟨#[]⟩ 0 0 none 0 0 (by decide))
theorem wg_c7 : WgQ 4 ⟨#[47, 100]⟩ ⟨#[]⟩ 0 0 (.slice none 0 0) 13 := wg_mk ((unlinkS wgT (ofS ⟨#[47, 100]⟩)).1) _ (by kernel_rfl) (fun W t Ls hT => doo_unlinkS W t wgT Ls hT wg_ok ⟨#[47, 100]⟩ ⟨#[]⟩ 0 0 none 0 0 (by decide))
theorem wg_c8 : WgQ 4 ⟨#[47, 120]⟩ ⟨#[]⟩ 0 0 (.slice none 0 0) 10 := wg_mk ((unlinkS wgT (ofS ⟨#[47, 120]⟩)).1) _ (by kernel_rfl) (fun W t Ls hT => doo_unlinkS W t wgT Ls hT wg_ok ⟨#[47, 120]⟩ ⟨#[]⟩ 0 0 none 0 0 (by decide))
theorem wg_c9 : WgQ 5 ⟨#[47]⟩ ⟨#[]⟩ 0 0 (.slice none 0 0) 18 := wg_mk ((rmdirS wgT (ofS ⟨#[47]⟩)).1) _ (by kernel_rfl) (fun W t Ls hT => doo_rmdirS W t wgT Ls hT wg_ok ⟨#[47]⟩ ⟨#[]⟩ 0 0 none 0 0 (by decide))
theorem wg_c10 : WgQ 5 ⟨#[47, 103]⟩ ⟨#[]⟩ 0 0 (.slice none 0 0) 12 := wg_mk ((rmdirS wgT (ofS ⟨#[47, 103]⟩)).1) _ (by kernel_rfl) (fun W t Ls hT => doo_rmdirS W t wgT Ls hT wg_ok ⟨#[47, 103]⟩ ⟨#[]⟩ 0 0 none 0 0 (by decide))
theorem wg_c11 : WgQ 5 ⟨#[47, 100]⟩ ⟨#[]⟩ 0 0 (.slice none 0 0) 14 := wg_mk ((rmdirS wgT (ofS ⟨#[47, 100]⟩)).1) _ (by kernel_rfl) (fun W t Ls hT => doo_rmdirS W t wgT Ls hT wg_ok ⟨#[47, 100]⟩ ⟨#[]⟩ 0 0 none 0 0 (by decide))
theorem wg_c12 : WgQ 5 ⟨#[47, 120]⟩ ⟨#[]⟩ 0 0 (.slice none 0 0) 10 := wg_mk ((rmdirS wgT (ofS ⟨#[47, 120]⟩)).1) _ (by kernel_rfl) (fun W t Ls hT => doo_rmdirS W t wgT Ls hT wg_ok ⟨#[47, 120]⟩ ⟨#[]⟩ 0 0 none 0 0 (by decide))
theorem wg_c13 : WgQ 3 ⟨#[47, 100]⟩ ⟨#[47, 104]⟩ 0 0 (.slice none 0 0) 13 := wg_mk (13) _ (by rfl) (fun W t Ls hT => doo_link_dir W t wgT Ls hT ⟨#[47, 100]⟩ ⟨#[47, 104]⟩ 0 0 none 0 0 (by decide) (by decide) [[100]] [[104]] (by decide) (by decide) 1 (by kernel_rfl) (by kernel_rfl))
theorem wg_c14 : WgQ 3 ⟨#[47, 120]⟩ ⟨#[47, 104]⟩ 0 0 (.slice none 0 0) 10 := wg_mk (10) _ (by rfl) (fun W t Ls hT => doo_link_none W t wgT Ls hT ⟨#[47, 120]⟩ ⟨#[47, 104]⟩ 0 0 none 0 0 (by decide) (by decide) [[120]] [[104]] (by decide) (by decide) 10 (by kernel_rfl) (by decide))
theorem wg_c15 : WgQ 3 ⟨#[47, 103]⟩ ⟨#[47]⟩ 0 0 (.slice none 0 0) 11 := wg_mk (11) _ (by rfl) (fun W t Ls hT => doo_link_root W t wgT Ls hT ⟨#[47, 103]⟩ ⟨#[47]⟩ 0 0 none 0 0 (by decide) (by decide) [[103]] (by decide) (by decide) 4 (by kernel_rfl) (by kernel_rfl))
theorem wg_c16 : WgQ 3 ⟨#[47, 103]⟩ ⟨#[47, 101]⟩ 0 0 (.slice none 0 0) 11 := wg_mk (11) _ (by rfl) (fun W t Ls hT => doo_link_at W t wgT Ls hT ⟨#[47, 103]⟩ ⟨#[47, 101]⟩ 0 0 none 0 0 (by decide) (by decide) [[103]] [] [101] (by decide) (by decide) 4 (by kernel_rfl) (by kernel_rfl) 11 (by kernel_rfl) (by decide))
theorem wg_c17 : WgQ 3 ⟨#[47, 103]⟩ ⟨#[47, 120, 47, 104]⟩ 0 0 (.slice none 0 0) 10 := wg_mk (10) _ (by rfl) (fun W t Ls hT => doo_link_at W t wgT Ls hT ⟨#[47, 103]⟩ ⟨#[47, 120, 47, 104]⟩ 0 0 none 0 0 (by decide) (by decide) [[103]] [[120]] [104] (by decide) (by decide) 4 (by kernel_rfl) (by kernel_rfl) 10 (by kernel_rfl) (by decide))
theorem wg_c18 : WgQ 6 ⟨#[47]⟩ ⟨#[47, 104]⟩ 0 0 (.slice none 0 0) 18 := wg_mk ((renameS wgT (ofS ⟨#[47]⟩) (ofS ⟨#[47, 104]⟩)).1) _ (by kernel_rfl) (fun W t Ls hT => doo_rename W t wgT Ls hT wg_ok ⟨#[47]⟩ ⟨#[47, 104]⟩ 0 0 none 0 0 (by decide) (by decide))
theorem wg_c19 : WgQ 6 ⟨#[47, 103]⟩ ⟨#[47]⟩ 0 0 (.slice none 0 0) 18 := wg_mk ((renameS wgT (ofS ⟨#[47, 103]⟩) (ofS ⟨#[47]⟩)).1) _ (by kernel_rfl) (fun W t Ls hT => doo_rename W t wgT Ls hT wg_ok ⟨#[47, 103]⟩ ⟨#[47]⟩ 0 0 none 0 0 (by decide) (by decide))
theorem wg_c20 : WgQ 6 ⟨#[47, 120]⟩ ⟨#[47, 104]⟩ 0 0 (.slice none 0 0) 10 := wg_mk ((renameS wgT (ofS ⟨#[47, 120]⟩) (ofS ⟨#[47, 104]⟩)).1) _ (by kernel_rfl) (fun W t Ls hT => doo_rename W t wgT Ls hT wg_ok ⟨#[47, 120]⟩ ⟨#[47, 104]⟩ 0 0 none 0 0 (by decide) (by decide))
theorem wg_c21 : WgQ 6 ⟨#[47, 100]⟩ ⟨#[47, 100, 47, 104]⟩ 0 0 (.slice none 0 0) 19 := wg_mk ((renameS wgT (ofS ⟨#[47, 100]⟩) (ofS ⟨#[47, 100, 47, 104]⟩)).1) _ (by kernel_rfl) (fun W t Ls hT => doo_rename W t wgT Ls hT wg_ok ⟨#[47, 100]⟩ ⟨#[47, 100, 47, 104]⟩ 0 0 none 0 0 (by decide) (by decide))
theorem wg_c22 : WgQ 6 ⟨#[47, 100]⟩ ⟨#[47, 103]⟩ 0 0 (.slice none 0 0) 12 := wg_mk ((renameS wgT (ofS ⟨#[47, 100]⟩) (ofS ⟨#[47, 103]⟩)).1) _ (by kernel_rfl) (fun W t Ls hT => doo_rename W t wgT Ls hT wg_ok ⟨#[47, 100]⟩ ⟨#[47, 103]⟩ 0 0 none 0 0 (by decide) (by decide))
theorem wg_c23 : WgQ 6 ⟨#[47, 103]⟩ ⟨#[47, 100]⟩ 0 0 (.slice none 0 0) 13 := wg_mk ((renameS wgT (ofS ⟨#[47, 103]⟩) (ofS ⟨#[47, 100]⟩)).1) _ (by kernel_rfl) (fun W t Ls hT => doo_rename W t wgT Ls hT wg_ok ⟨#[47, 103]⟩ ⟨#[47, 100]⟩ 0 0 none 0 0 (by decide) (by decide))
theorem wg_c24 : WgQ 6 ⟨#[47, 101]⟩ ⟨#[47, 100]⟩ 0 0 (.slice none 0 0) 14 := wg_mk ((renameS wgT (ofS ⟨#[47, 101]⟩) (ofS ⟨#[47, 100]⟩)).1) _ (by kernel_rfl) (fun W t Ls hT => doo_rename W t wgT Ls hT wg_ok ⟨#[47, 101]⟩ ⟨#[47, 100]⟩ 0 0 none 0 0 (by decide) (by decide))
theorem wg_c25 : WgQ 6 ⟨#[47, 103]⟩ ⟨#[47, 120, 47, 104]⟩ 0 0 (.slice none 0 0) 10 := wg_mk ((renameS wgT (ofS ⟨#[47, 103]⟩) (ofS ⟨#[47, 120, 47, 104]⟩)).1) _ (by kernel_rfl) (fun W t Ls hT => doo_rename W t wgT Ls hT wg_ok ⟨#[47, 103]⟩ ⟨#[47, 120, 47, 104]⟩ 0 0 none 0 0 (by decide) (by decide))
theorem wg_c26 : WgQ 7 ⟨#[47, 100]⟩ ⟨#[]⟩ 0 1 (.slice none 0 0) 13 := wg_mk (13) _ (by rfl) (fun W t Ls hT => doo_read_no W t wgT Ls hT ⟨#[47, 100]⟩ ⟨#[]⟩ 0 1 none 0 0 (by decide) (by decide) (by decide) (by decide) 13 (by kernel_rfl) (by decide))
theorem wg_c27 : WgQ 7 ⟨#[47, 103]⟩ ⟨#[]⟩ (-1) 1 (.slice none 0 0) 1 := wg_mk (1) _ (by rfl) (fun W t Ls hT => doo_read_arg1 W t wgT Ls hT ⟨#[47, 103]⟩ ⟨#[]⟩ (-1) 1 none 0 0 (by decide) (by decide))
theorem wg_c28 : WgQ 7 ⟨#[47, 103]⟩ ⟨#[]⟩ 0 8193 (.slice none 0 0) 1 := wg_mk (1) _ (by rfl) (fun W t Ls hT => doo_read_arg3 W t wgT Ls hT ⟨#[47, 103]⟩ ⟨#[]⟩ 0 8193 none 0 0 (by decide) (by decide) (by decide) (by decide))
theorem wg_c29 : WgQ 8 ⟨#[47, 100]⟩ ⟨#[]⟩ 0 0 (.slice none 0 0) 13 := wg_mk (13) _ (by rfl) (fun W t Ls hT => doo_write_no W t wgT Ls hT ⟨#[47, 100]⟩ ⟨#[]⟩ 0 0 none 0 0 (by decide) (by decide) (by decide) 13 (by kernel_rfl) (by decide))
theorem wg_c30 : WgQ 8 ⟨#[47, 103]⟩ ⟨#[]⟩ (-1) 0 (.slice none 0 0) 1 := wg_mk (1) _ (by rfl) (fun W t Ls hT => doo_write_arg1 W t wgT Ls hT ⟨#[47, 103]⟩ ⟨#[]⟩ (-1) 0 none 0 0 (by decide) (by decide))
theorem wg_c31 (a : Nat) : WgQ 8 ⟨#[47, 103]⟩ ⟨#[]⟩ 67379199 0 (.slice (some ⟨a, 0, none⟩) 2 2) 17 := wg_mk (17) _ (by rfl) (fun W t Ls hT => doo_write_big W t wgT Ls hT ⟨#[47, 103]⟩ ⟨#[]⟩ 67379199 0 (some ⟨a, 0, none⟩) 2 2 (by decide) (by decide) (by decide) (by decide) 4 (by kernel_rfl))
theorem wg_c32 : WgQ 9 ⟨#[47, 103]⟩ ⟨#[]⟩ 0 (-1) (.slice none 0 0) 1 := wg_mk ((truncS wgT (ofS ⟨#[47, 103]⟩) (-1)).1) _ (by kernel_rfl) (fun W t Ls hT => doo_truncS W t wgT Ls hT wg_ok ⟨#[47, 103]⟩ ⟨#[]⟩ 0 (-1) none 0 0 (by decide))
theorem wg_c33 : WgQ 9 ⟨#[47, 100]⟩ ⟨#[]⟩ 0 0 (.slice none 0 0) 13 := wg_mk ((truncS wgT (ofS ⟨#[47, 100]⟩) 0).1) _ (by kernel_rfl) (fun W t Ls hT => doo_truncS W t wgT Ls hT wg_ok ⟨#[47, 100]⟩ ⟨#[]⟩ 0 0 none 0 0 (by decide))
theorem wg_c34 : WgQ 9 ⟨#[47, 103]⟩ ⟨#[]⟩ 0 67379201 (.slice none 0 0) 17 := wg_mk ((truncS wgT (ofS ⟨#[47, 103]⟩) 67379201).1) _ (by kernel_rfl) (fun W t Ls hT => doo_truncS W t wgT Ls hT wg_ok ⟨#[47, 103]⟩ ⟨#[]⟩ 0 67379201 none 0 0 (by decide))
theorem wg_c35 : WgQ 11 ⟨#[47, 103]⟩ ⟨#[]⟩ 0 0 (.slice none 0 0) 12 := wg_mk (12) _ (by rfl) (fun W t Ls hT => doo_listF W t wgT Ls hT ⟨#[47, 103]⟩ ⟨#[]⟩ 0 0 none 0 0 (by decide) 4 (by kernel_rfl) (by kernel_rfl))
theorem wg_c36 : WgQ 10 ⟨#[47, 103, 47, 120]⟩ ⟨#[]⟩ 0 0 (.slice none 0 0) 12 := wg_mk (12) _ (by rfl) (fun W t Ls hT => doo_stat W t wgT Ls hT ⟨#[47, 103, 47, 120]⟩ ⟨#[]⟩ 0 0 none 0 0 (by decide) 12 0 0 0 (by kernel_rfl))
theorem wg_c37 : WgQ 12 ⟨#[47, 120]⟩ ⟨#[]⟩ 0 0 (.slice none 0 0) 10 := wg_mk ((nodeE wgT.nodes (ofS ⟨#[47, 120]⟩)).2) _ (by kernel_rfl) (fun W t Ls hT => doo_fsyncS W t wgT Ls hT ⟨#[47, 120]⟩ ⟨#[]⟩ 0 0 none 0 0 (by decide))
theorem wg_c38 : WgQ 14 ⟨#[]⟩ ⟨#[]⟩ 0 0 (.slice none 0 0) 1 := wg_mk (1) _ (by rfl) (fun W t Ls hT => doo_otherS W t wgT Ls hT 14 (.inr (by decide)) (by decide) ⟨#[]⟩ ⟨#[]⟩ 0 0 none 0 0)
theorem wg_c39 : WgQ 10 ⟨#[47, 97, 47, 47, 98]⟩ ⟨#[]⟩ 0 0 (.slice none 0 0) 15 := wg_mk (15) _ (by rfl) (fun W t Ls hT => doo_stat W t wgT Ls hT ⟨#[47, 97, 47, 47, 98]⟩ ⟨#[]⟩ 0 0 none 0 0 (by decide) 15 0 0 0 (by kernel_rfl))
theorem wg_c40 : WgQ 10 ⟨#[47, 97, 47]⟩ ⟨#[]⟩ 0 0 (.slice none 0 0) 15 := wg_mk (15) _ (by rfl) (fun W t Ls hT => doo_stat W t wgT Ls hT ⟨#[47, 97, 47]⟩ ⟨#[]⟩ 0 0 none 0 0 (by decide) 15 0 0 0 (by kernel_rfl))
theorem wg_c41 : WgQ 10 ⟨#[47, 46, 47, 97]⟩ ⟨#[]⟩ 0 0 (.slice none 0 0) 15 := wg_mk (15) _ (by rfl) (fun W t Ls hT => doo_stat W t wgT Ls hT ⟨#[47, 46, 47, 97]⟩ ⟨#[]⟩ 0 0 none 0 0 (by decide) 15 0 0 0 (by kernel_rfl))
theorem wg_all (a : Nat) : ∀ k, k < 42 → WgQ (wgK k) (wgP k) (wgQ k) (wgO k) (wgN k) (wgD a k) (wgW k)
  | 0, _ => wg_c0
  | 1, _ => wg_c1
  | 2, _ => wg_c2
  | 3, _ => wg_c3
  | 4, _ => wg_c4
  | 5, _ => wg_c5
  | 6, _ => wg_c6
  | 7, _ => wg_c7
  | 8, _ => wg_c8
  | 9, _ => wg_c9
  | 10, _ => wg_c10
  | 11, _ => wg_c11
  | 12, _ => wg_c12
  | 13, _ => wg_c13
  | 14, _ => wg_c14
  | 15, _ => wg_c15
  | 16, _ => wg_c16
  | 17, _ => wg_c17
  | 18, _ => wg_c18
  | 19, _ => wg_c19
  | 20, _ => wg_c20
  | 21, _ => wg_c21
  | 22, _ => wg_c22
  | 23, _ => wg_c23
  | 24, _ => wg_c24
  | 25, _ => wg_c25
  | 26, _ => wg_c26
  | 27, _ => wg_c27
  | 28, _ => wg_c28
  | 29, _ => wg_c29
  | 30, _ => wg_c30
  | 31, _ => wg_c31 a
  | 32, _ => wg_c32
  | 33, _ => wg_c33
  | 34, _ => wg_c34
  | 35, _ => wg_c35
  | 36, _ => wg_c36
  | 37, _ => wg_c37
  | 38, _ => wg_c38
  | 39, _ => wg_c39
  | 40, _ => wg_c40
  | 41, _ => wg_c41
  | _ + 42, h => absurd h (by omega)
def wgZ (a : Nat) : List (Nat × Value) := (List.range 42).map (fun k => (k, Value.agg (wgF a k).toArray))
theorem wg_fill (a : Nat) : Instr.fill (fun i => some (i * 6, 6)) ((Array.range (42 * 6)).map (fun x => (Value.agg #[.int .i64 0, .string ⟨#[]⟩, .string ⟨#[]⟩, .int .i64 0, .int .i64 0, .slice none 0 0]).cells[x % 6]!)) (wgZ a) = some (wgCells a) := by kernel_rfl
def wgY : List (Nat × Value) := (List.range 42).map (fun k => (k, Value.int .i64 (wgW k)))
theorem wg_fill2 : Instr.fill (fun i => some (i * 1, 1)) ((Array.range (42 * 1)).map (fun x => (Value.int .i64 0).cells[x % 1]!)) wgY = some wgWs := by kernel_rfl
theorem wg_info : ∃ i0, Tryz.prog.info? 35 = some i0 ∧ i0.zero = some (.agg #[.int .i64 0, .string ⟨#[]⟩, .string ⟨#[]⟩, .int .i64 0, .int .i64 0, .slice none 0 0]) ∧ i0.size = 6 := by
  have h : (Tryz.prog.info? 35).map (fun i => (i.zero, i.size)) = some (some (.agg #[.int .i64 0, .string ⟨#[]⟩, .string ⟨#[]⟩, .int .i64 0, .int .i64 0, .slice none 0 0]), 6) := by kernel_rfl
  cases hh : Tryz.prog.info? 35 with
  | none => rw [hh] at h; cases h
  | some i => rw [hh] at h; simp at h; exact ⟨i, rfl, h.1, h.2⟩
theorem wg_info3 : ∃ i0, Tryz.prog.info? 3 = some i0 ∧ i0.zero = some (.int .i64 0) ∧ i0.size = 1 := by
  have h : (Tryz.prog.info? 3).map (fun i => (i.zero, i.size)) = some (some (.int .i64 0), 1) := by kernel_rfl
  cases hh : Tryz.prog.info? 3 with
  | none => rw [hh] at h; cases h
  | some i => rw [hh] at h; simp at h; exact ⟨i, rfl, h.1, h.2⟩
theorem wpList_it {P : Program} {w : World} {ops : Array Oper} {l : List Oper} {a : Act} {Q : Exit → Act → World → Prop} (h : wpList P ops Q l a w) : wpList P ops Q l a w := h
theorem lW_any2 (w : World) (s : ByteArray) (off : Int) (ao : Option Addr) (dl dc : Nat) : Calls Tryz.prog 15 #[.string s, .int .i64 off, .slice ao dl dc] w fun x w' => x = .returned (callV 8 s ⟨#[]⟩ off 0 (.slice ao dl dc)) ∧ Below w.heap.size w w' := by
  go_enter Tryz.func15, Tryz.ntmps15
  go_wp2
  refine bodyPost_ret (v := callV 8 s ⟨#[]⟩ off 0 (.slice ao dl dc)) ?_ rfl ⟨rfl, ?_⟩
  · simp [results, Tryz.results15, go_sem, callV]
  · exact (Below.refl _ w).alloc (Nat.le_refl _) _
theorem wg1_is : enterS (newT 1 1 20) (ofS ⟨#[47, 100]⟩) newD = (0, wg1) := Prod.ext (by decide +kernel) rfl
theorem wg2_is : enterS wg1 (ofS ⟨#[47, 101]⟩) newD = (0, wg2) := Prod.ext (by decide +kernel) rfl
theorem wg3_is : enterS wg2 (ofS ⟨#[47, 100, 47, 102]⟩) newF = (0, wg3) := Prod.ext (by decide +kernel) rfl
theorem wg4_is : enterS wg3 (ofS ⟨#[47, 103]⟩) newF = (0, wgT) := Prod.ext (by decide +kernel) wg_is
end Go.Proofs.YtehaoeclnmelhabGreat
namespace Go.Proofs.YtehaoeclnmelhabGreat
open Go Go.Proofs Go.RowKit Go.Shelf Go.Sort

set_option maxRecDepth 100000 in
set_option maxHeartbeats 4000000 in
theorem wrong_law (w : World) (wh : Int) : Calls Tryz.prog 6 #[.int .i64 wh] w fun e w' => e = .returned (.bool true) ∧ Below w.heap.size w w' := by
  have HA := Hid.mk (alive_any w)
  obtain ⟨iC, hC1, hC2, hC3⟩ := wg_info
  obtain ⟨iN, hN1, hN2, hN3⟩ := wg_info3
  have HC := Hid.mk (And.intro hC1 (And.intro hC2 hC3))
  have HN := Hid.mk (And.intro hN1 (And.intro hN2 hN3))
  clear hC1 hC2 hC3 hN1 hN2 hN3
  go_enter Tryz.func6, Tryz.ntmps6
  go_upto_region 3 with (first
    | (go_at_call 9; refine HA.out.mono ?_; rintro e W0 ⟨rfl, hw⟩; have HB := Hid.mk hw; clear hw)
    | (go_at_call 11; refine (lG_any _ _).mono ?_; rintro e W1 ⟨rfl, hB1⟩; have B1 := Hid.mk (HB.out.trans (hB1.mono HB.out.size)); clear hB1)
    | (go_at_call 10; refine (new_any _ 1 1 20).mono ?_; rintro e W2 ⟨rfl, hT2, hB2⟩; have O : Hid (OwnT w W2 (W1.heap.size + 4) (newT 1 1 20) (fun _ => False)) := Hid.mk ⟨B1.out.trans (hB2.mono B1.out.size), _, hT2, fun k hk => ⟨by simp [feet, Lay.foot] at hk; have := B1.out.size; omega, fun h => h⟩⟩; unfold ptrV; clear hT2 hB2))
  generalize W1.heap.size + 4 = t at *
  clear HB B1 HA
  go_upto_region 4 with (first
    | (go_at_call 13; refine (lC_any _ _ _).mono ?_; rintro e W3 ⟨rfl, hB3⟩; have O1 := Hid.mk (O.out.then hB3); unfold callV; clear hB3 O)
    | (go_at_call 12; refine (own_do (σ' := wg1) O1.out (fun k h => h.elim) (fun Ls hT => by have := doo_mkdir _ t _ Ls hT (new_ok _ _ _) ⟨#[47, 100]⟩ ⟨#[]⟩ 0 0 none 0 0 (by decide); rw [wg1_is] at this; exact this)).mono ?_; rintro e W4 ⟨rfl, hO, -, -⟩; have O := Hid.mk hO; unfold errV; clear hO O1))
  go_upto_region 5 with (first
    | (go_at_call 13; refine (lC_any _ _ _).mono ?_; rintro e W3 ⟨rfl, hB3⟩; have O1 := Hid.mk (O.out.then hB3); unfold callV; clear hB3 O)
    | (go_at_call 12; refine (own_do (σ' := wg2) O1.out (fun k h => h.elim) (fun Ls hT => by have := doo_mkdir _ t _ Ls hT wg1_ok ⟨#[47, 101]⟩ ⟨#[]⟩ 0 0 none 0 0 (by decide); rw [wg2_is] at this; exact this)).mono ?_; rintro e W4 ⟨rfl, hO, -, -⟩; have O := Hid.mk hO; unfold errV; clear hO O1))
  go_upto_region 6 with (first
    | (go_at_call 13; refine (lC_any _ _ _).mono ?_; rintro e W3 ⟨rfl, hB3⟩; have O1 := Hid.mk (O.out.then hB3); unfold callV; clear hB3 O)
    | (go_at_call 12; refine (own_do (σ' := wg3) O1.out (fun k h => h.elim) (fun Ls hT => by have := doo_create _ t _ Ls hT wg2_ok ⟨#[47, 100, 47, 102]⟩ ⟨#[]⟩ 0 0 none 0 0 (by decide); rw [wg3_is] at this; exact this)).mono ?_; rintro e W4 ⟨rfl, hO, -, -⟩; have O := Hid.mk hO; unfold errV; clear hO O1))
  go_upto_region 7 with (first
    | (go_at_call 13; refine (lC_any _ _ _).mono ?_; rintro e W3 ⟨rfl, hB3⟩; have O1 := Hid.mk (O.out.then hB3); unfold callV; clear hB3 O)
    | (go_at_call 12; refine (own_do (σ' := wgT) O1.out (fun k h => h.elim) (fun Ls hT => by have := doo_create _ t _ Ls hT wg3_ok ⟨#[47, 103]⟩ ⟨#[]⟩ 0 0 none 0 0 (by decide); rw [wg4_is] at this; exact this)).mono ?_; rintro e W4 ⟨rfl, hO, -, -⟩; have O := Hid.mk hO; unfold errV; clear hO O1))
  go_upto_region 8 with (first
    | (go_at_call 13; refine (lC_any _ _ _).mono ?_; rintro e W3 ⟨rfl, hB3⟩; have O1 := Hid.mk (O.out.then hB3); clear O; have O := O1; clear O1 hB3; unfold callV)
    | (go_at_call 17; refine (lTo_any _ _ _ _).mono ?_; rintro e W3 ⟨rfl, hB3⟩; have O1 := Hid.mk (O.out.then hB3); clear O; have O := O1; clear O1 hB3; unfold callV)
    | (go_at_call 18; refine (lR_any _ _ _ _).mono ?_; rintro e W3 ⟨rfl, hB3⟩; have O1 := Hid.mk (O.out.then hB3); clear O; have O := O1; clear O1 hB3; unfold callV)
    | (go_at_call 15; refine (lW_any2 _ _ _ _ _ _).mono ?_; rintro e W3 ⟨rfl, hB3⟩; have O1 := Hid.mk (O.out.then hB3); clear O; have O := O1; clear O1 hB3; unfold callV)
    | (go_at_call 15; refine (lW_any2 _ _ _ _ _ _).mono ?_; rintro e W5 ⟨rfl, hB3⟩; have O1 := Hid.mk ((O.out.then ((Below.refl _ W3).alloc (Nat.le_refl _) _)).then hB3); clear O; have O := O1; clear O1 hB3; generalize W3.heap.size = aW at *; unfold callV)
    | (with_reducible refine wpList_it ?_; refine wpList_knownR (by kernel_rfl) _ _ (exec_bs (tS := 47) (tE := 35) (n := 42) (sz := 6) (Z := wgZ aW) (cells := wgCells aW) rfl Tryz.underlying47 HC.out.1 HC.out.2.1 HC.out.2.2 rfl (by decide) (by decide) (by kernel_rfl) (wg_fill aW)) ?_; simp only [Act.put, List.setIfInBounds_toArray, List.set_cons_zero, List.set_cons_succ]))
  obtain ⟨X, hX⟩ : ∃ X, X = W3.alloc (.cells (wgCells aW) 35) := ⟨_, rfl⟩
  have O1 : Hid (OwnT w X t wgT (fun _ => False)) := Hid.mk (by rw [hX]; exact O.out.then ((Below.refl _ W3).alloc (Nat.le_refl _) _))
  have qL : X.heap[W3.heap.size]? = some (.cells (wgCells aW) 35 (0, 0)) := by rw [hX]; exact blk_new W3 _
  rw [← hX]
  generalize W3.heap.size = bL at *
  have QL := Hid.mk qL
  clear hX O qL HC
  go_upto_region 9 with (with_reducible refine wpList_it ?_; refine wpList_knownR (by kernel_rfl) _ _ (exec_bs (tS := 42) (tE := 3) (n := 42) (sz := 1) (Z := wgY) (cells := wgWs) rfl Tryz.underlying42 HN.out.1 HN.out.2.1 HN.out.2.2 rfl (by decide) (by decide) (by kernel_rfl) wg_fill2) ?_; simp only [Act.put, List.setIfInBounds_toArray, List.set_cons_zero, List.set_cons_succ])
  obtain ⟨Y, hY⟩ : ∃ Y, Y = X.alloc (.cells wgWs 3) := ⟨_, rfl⟩
  have O2 : Hid (OwnT w Y t wgT (fun k => k = X.heap.size)) := Hid.mk (by rw [hY]; exact (O1.out.box (.cells wgWs 3)).less (fun k h => .inr h))
  have qW : Y.heap[X.heap.size]? = some (.cells wgWs 3 (0, 0)) := by rw [hY]; exact blk_new X _
  have qL : Y.heap[bL]? = some (.cells (wgCells aW) 35 (0, 0)) := by rw [hY]; exact (Below.heap_alloc _ _ _ (lt_of_block QL.out)).trans QL.out
  rw [← hY]
  generalize X.heap.size = bW at *
  clear hY O1 QL HN
  have PB := Hid.mk O2.out.below
  by_cases c1 : wh < 0
  · clear qW qL O2
    go_wp2_with fail
    go_ret
    exact ⟨rfl, PB.out⟩
  by_cases c2 : (42 : Int) ≤ wh
  · clear qW qL O2
    go_wp2_with fail
    go_ret
    exact ⟨rfl, PB.out⟩
  obtain ⟨k, rfl⟩ : ∃ k : Nat, wh = k := ⟨wh.toNat, by omega⟩
  have hk : k < 42 := by omega
  have hk1 : (k : Int) < 42 := by omega
  obtain ⟨S, hS⟩ := wg_all aW k hk
  unfold callV at hS
  have d0 : Y.cell? ⟨bL, k * 6, none⟩ = some (.int .i64 (wgK k)) := (blk_cell qL (k * 6 + 0)).trans (wg_cell aW k 0 hk (by decide))
  have d1 : Y.cell? ⟨bL, k * 6 + 1, none⟩ = some (.string (wgP k)) := (blk_cell qL (k * 6 + 1)).trans (wg_cell aW k 1 hk (by decide))
  have d2 : Y.cell? ⟨bL, k * 6 + 2, none⟩ = some (.string (wgQ k)) := (blk_cell qL (k * 6 + 2)).trans (wg_cell aW k 2 hk (by decide))
  have d3 : Y.cell? ⟨bL, k * 6 + 3, none⟩ = some (.int .i64 (wgO k)) := (blk_cell qL (k * 6 + 3)).trans (wg_cell aW k 3 hk (by decide))
  have d4 : Y.cell? ⟨bL, k * 6 + 4, none⟩ = some (.int .i64 (wgN k)) := (blk_cell qL (k * 6 + 4)).trans (wg_cell aW k 4 hk (by decide))
  have d5 : Y.cell? ⟨bL, k * 6 + 5, none⟩ = some (wgD aW k) := (blk_cell qL (k * 6 + 5)).trans (wg_cell aW k 5 hk (by decide))
  have HS := Hid.mk hS
  have HK := Hid.mk hk
  have QW := Hid.mk qW
  clear hS qW qL hk
  go_upto_region 12 with (go_at_call 12; refine (own_do (σ' := S) O2.out (fun k h => by rw [h]; exact lt_of_block QW.out) (fun Ls hT => HS.out Y t Ls hT)).mono ?_; rintro e W7 ⟨rfl, hO, hkp, -⟩; have O3 := Hid.mk hO; have QW2 := Hid.mk ((hkp bW rfl).trans QW.out); unfold errV; clear hO hkp O2 QW)
  obtain ⟨Z, hZ⟩ : ∃ Z, Z = W7.alloc (.cells #[.int .i64 (wgW k), .slice none 0 0, .int .i64 0, .int .i64 0, .int .i64 0, .slice none 0 0, .int .i64 0] 32) := ⟨_, rfl⟩
  have q7 : Z.heap[W7.heap.size]? = some (.cells #[.int .i64 (wgW k), .slice none 0 0, .int .i64 0, .int .i64 0, .int .i64 0, .slice none 0 0, .int .i64 0] 32 (0, 0)) := by rw [hZ]; exact blk_new W7 _
  have qW := (Below.heap_alloc W7 (.cells #[.int .i64 (wgW k), .slice none 0 0, .int .i64 0, .int .i64 0, .int .i64 0, .slice none 0 0, .int .i64 0] 32) _ (lt_of_block QW2.out)).trans QW2.out
  rw [← hZ] at qW ⊢
  have PZ : Hid (Below w.heap.size w Z) := Hid.mk (by rw [hZ]; exact O3.out.below.alloc O3.out.below.size _)
  generalize W7.heap.size = b7 at *
  have d7 := blk_cell q7 0
  have dW := (blk_cell qW k).trans (wg_want k HK.out)
  simp at d7
  clear hZ q7 qW O3 QW2 d0 d1 d2 d3 d4 d5
  refine wp_region_held_drew (S := fun W => W.cell? ⟨b7, 0, none⟩ = some (.int .i64 (wgW k)) ∧ W.cell? ⟨bW, k, none⟩ = some (.int .i64 (wgW k))) (by kernel_rfl) ⟨d7, dW⟩ (fun hH => ?_)
  change wpAnyH Tryz.prog Region.Mode.any _ _ _ 12 _ _ _
  refine takeH 0 83 (.bool true) rfl (by kernel_rfl) (by kernel_rfl) (by kernel_rfl) (by kernel_rfl) (fun _ _ _ h => h) (by kernel_rfl) (fun w hw => by kernel_rfl) hH ?_
  simp only [List.setIfInBounds_toArray, List.set_cons_zero, List.set_cons_succ]
  refine takeH 1 84 (.bool true) rfl (by kernel_rfl) (by kernel_rfl) (by kernel_rfl) (by kernel_rfl) (fun _ _ _ h => h) (by kernel_rfl) (fun w hw => by kernel_rfl) hH ?_
  simp only [List.setIfInBounds_toArray, List.set_cons_zero, List.set_cons_succ]
  refine takeH 2 85 (.pointer (some ⟨b7, 0, none⟩)) rfl (by kernel_rfl) (by kernel_rfl) (by kernel_rfl) (by kernel_rfl) (fun _ _ _ h => h) (by kernel_rfl) (fun w hw => by (try dsimp only at hw); go_simp) hH ?_
  simp only [List.setIfInBounds_toArray, List.set_cons_zero, List.set_cons_succ]
  refine takeH 3 86 (.int .i64 (wgW k)) rfl (by kernel_rfl) (by kernel_rfl) (by kernel_rfl) (by kernel_rfl) (fun _ _ _ h => h) (by kernel_rfl) (fun w hw => by (try dsimp only at hw); obtain ⟨h1, h2⟩ := hw; go_simp) hH ?_
  simp only [List.setIfInBounds_toArray, List.set_cons_zero, List.set_cons_succ]
  refine takeH 5 88 (.slice (some ⟨bW, 0, none⟩) 42 42) rfl (by kernel_rfl) (by kernel_rfl) (by kernel_rfl) (by kernel_rfl) (fun _ _ _ h => h) (by kernel_rfl) (fun w hw => by kernel_rfl) hH ?_
  simp only [List.setIfInBounds_toArray, List.set_cons_zero, List.set_cons_succ]
  refine takeH 6 89 (.int .i64 (k : Int)) rfl (by kernel_rfl) (by kernel_rfl) (by kernel_rfl) (by kernel_rfl) (fun _ _ _ h => h) (by kernel_rfl) (fun w hw => by kernel_rfl) hH ?_
  simp only [List.setIfInBounds_toArray, List.set_cons_zero, List.set_cons_succ]
  refine takeH 7 90 (.pointer (some ⟨bW, k, none⟩)) rfl (by kernel_rfl) (by kernel_rfl) (by kernel_rfl) (by kernel_rfl) (fun _ _ _ h => h) (by kernel_rfl) (fun w hw => by (try dsimp only at hw); go_simp) hH ?_
  simp only [List.setIfInBounds_toArray, List.set_cons_zero, List.set_cons_succ]
  refine takeH 8 91 (.int .i64 (wgW k)) rfl (by kernel_rfl) (by kernel_rfl) (by kernel_rfl) (by kernel_rfl) (fun _ _ _ h => h) (by kernel_rfl) (fun w hw => by (try dsimp only at hw); obtain ⟨h1, h2⟩ := hw; go_simp) hH ?_
  simp only [List.setIfInBounds_toArray, List.set_cons_zero, List.set_cons_succ]
  refine stepH_call 4 87 rfl (by kernel_rfl) (by kernel_rfl) (by kernel_rfl) 14 #[.tmp 86] #[28] (by kernel_rfl) (enters_of Tryz.func14 (by kernel_rfl) rfl) #[.int .i64 (wgW k)] (by kernel_rfl) (lnum_any _ _) ?_
  rintro e' w9 ⟨rfl, hw9⟩
  rw [hw9]
  refine ⟨_, rfl, hH, ?_⟩
  simp only [List.setIfInBounds_toArray, List.set_cons_zero, List.set_cons_succ]
  refine takeH 9 92 (.bool true) rfl (by kernel_rfl) (by kernel_rfl) (by kernel_rfl) (by kernel_rfl) (fun _ _ _ h => h) (by kernel_rfl) (fun w hw => by (try dsimp only at hw); go_simp) hH ?_
  simp only [List.setIfInBounds_toArray, List.set_cons_zero, List.set_cons_succ]
  refine takeH 10 93 (.bool true) rfl (by kernel_rfl) (by kernel_rfl) (by kernel_rfl) (by kernel_rfl) (fun _ _ _ h => h) (by kernel_rfl) (fun w hw => by (try dsimp only at hw); go_simp) hH ?_
  simp only [List.setIfInBounds_toArray, List.set_cons_zero, List.set_cons_succ]
  refine takeH 11 2 (.bool true) rfl (by kernel_rfl) (by kernel_rfl) (by kernel_rfl) (by kernel_rfl) (fun _ _ _ h => h) (by kernel_rfl) (fun w hw => by kernel_rfl) hH ?_
  simp only [List.setIfInBounds_toArray, List.set_cons_zero, List.set_cons_succ]
  refine wpAnyH_done (by kernel_rfl) ?_ _
  go_wp2_with fail
  go_ret
  exact ⟨rfl, PZ.out.drew⟩
end Go.Proofs.YtehaoeclnmelhabGreat
