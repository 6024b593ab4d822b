/-
  The calls of TreeRoom, on a tree of one's own.
-/
import Derived.Test.YtehaoeclnmelhabGreatTrRmL
import Derived.Test.YtehaoeclnmelhabGreatTrMvS
namespace Go.Proofs.YtehaoeclnmelhabGreat
open Go Go.Proofs Go.RowKit Go.Shelf Go.Sort

theorem own_do2 {w W : World} {t : Nat} {σ σ' : Tr} {B : Nat → Prop} {F : FuncId} {vs : Array Value} {v : Value} (hO : OwnT w W t σ B) (hB : ∀ k, B k → k < W.heap.size) (hC : ∀ Ls, TrAt W t σ Ls → (∀ k ∈ feet t Ls, ¬ B k) → Calls Tryz.prog F vs W fun e w' => e = .returned v ∧ Step (fun k => k ∈ feet t Ls) W t w' σ') :
    Calls Tryz.prog F vs W fun e w' => e = .returned v ∧ OwnT w w' t σ' B ∧ (∀ k, B k → w'.heap[k]? = W.heap[k]?) ∧ W.heap.size ≤ w'.heap.size := by
  obtain ⟨h1, Ls, h2, h3⟩ := hO
  refine (hC Ls h2 (fun k hk => (h3 k hk).2)).mono ?_
  rintro e w' ⟨rfl, ⟨⟨Ls', h4, h5⟩, h6⟩⟩
  refine ⟨rfl, ⟨?_, Ls', h4, fun k hk => ?_⟩, fun k hk => h6.block k (hB k hk) (fun hf => (h3 k hf).2 hk), h6.size⟩
  · exact ((Only.of_below (S := fun _ => False) h1 (fun k h1 h2 => by omega)).trans h6 (fun i hi => .inr (h3 i hi).1)).below (Nat.le_refl _) (fun _ h => h.elim)
  · rcases h5 k hk with h | h
    · exact h3 k h
    · exact ⟨Nat.le_trans h1.size h, fun hb => by have := hB k hb; omega⟩
def rmPath (i : Nat) : ByteArray := mkS (47 :: rmP i)
def rmLet (i : Nat) : ByteArray := ⟨#[UInt8.ofNat (97 + i)]⟩
theorem rm_cat (i : Nat) : (⟨#[47, 102]⟩ : ByteArray) ++ rmLet i = rmPath i := by
  apply ofS_inj
  unfold rmPath
  rw [of_mk]
  show ((⟨#[47, 102]⟩ : ByteArray) ++ rmLet i).data.toList = _
  rw [ByteArray.data_append]
  simp [rmLet, rmP]
theorem rm_let_size (i : Nat) : (rmLet i).size = 1 := rfl
theorem rm_size (i : Nat) : (rmPath i).size = 3 := by unfold rmPath; rw [mkS_size]; rfl
set_option maxRecDepth 100000 in
theorem exec_rm {ev : Operand → Value} {oi : Oper} {x y : Operand} {w : World} (q : Nat) (hq : q < 20) (ho : oi.op = .slice 9 (.const (.string ⟨#[97, 98, 99, 100, 101, 102, 103, 104, 105, 106, 107, 108, 109, 110, 111, 112, 113, 114, 115, 116]⟩)) (some x) (some y) none) (hv : ev (.const (.string ⟨#[97, 98, 99, 100, 101, 102, 103, 104, 105, 106, 107, 108, 109, 110, 111, 112, 113, 114, 115, 116]⟩)) = .string ⟨#[97, 98, 99, 100, 101, 102, 103, 104, 105, 106, 107, 108, 109, 110, 111, 112, 113, 114, 115, 116]⟩) (hx : ev x = .int .i64 q) (hy : ev y = .int .i64 ((q : Int) + 1)) :
    (execOp ev oi).run Tryz.prog w = .ok (.value (.string (rmLet q))) w := by
  unfold execOp
  rw [ho]
  simp only [hx, hy, hv, Option.map]
  have h : q = 0 ∨ q = 1 ∨ q = 2 ∨ q = 3 ∨ q = 4 ∨ q = 5 ∨ q = 6 ∨ q = 7 ∨ q = 8 ∨ q = 9 ∨ q = 10 ∨ q = 11 ∨ q = 12 ∨ q = 13 ∨ q = 14 ∨ q = 15 ∨ q = 16 ∨ q = 17 ∨ q = 18 ∨ q = 19 := by omega
  rcases h with rfl | rfl | rfl | rfl | rfl | rfl | rfl | rfl | rfl | rfl | rfl | rfl | rfl | rfl | rfl | rfl | rfl | rfl | rfl | rfl <;> rfl
theorem wpList_knownR {P : Program} {w : World} {ops : Array Oper} {rest : List Oper} {o : Oper} {a : Act} {Q : Exit → Act → World → Prop} (hw : Region.wanted o (yielded ops a.tmps) = true) (v : Value) (w' : World)
    (hrun : (execOp a.eval o).run P w = .ok (.value v) w') (h : wpList P ops Q rest (a.put o.dst v) w') : wpList P ops Q (o :: rest) a w := by
  refine BigFrame.wpList_want hw fun K hK => ?_
  unfold Oper.wp
  rw [hrun, Oper.upon_value]
  exact hK _ _ h
theorem rm_zero (d : Int) : newT 1 1 d = rmA d 0 := rfl
theorem rm_do1 (w W : World) (t : Nat) (d : Int) (i : Nat) (B : Nat → Prop) (h0 : 8 ≤ d) (h1 : d ≤ 100) (hi : i < 20) (hO : OwnT w W t (rmA d (min i 15)) B) (hB : ∀ k, B k → k < W.heap.size) : Calls Tryz.prog 12 #[ptrV t, callV 1 (rmPath i) ⟨#[]⟩ 0 0 (.slice none 0 0)] W fun e w' => e = .returned (errV (if i < 15 then 0 else 16)) ∧ OwnT w w' t (rmA d (min (i + 1) 15)) B ∧ (∀ k, B k → w'.heap[k]? = W.heap[k]?) ∧ W.heap.size ≤ w'.heap.size :=
  own_do hO hB (fun Ls hT => by
    have := doo_create W t _ Ls hT (rmA_ok (by omega)) (rmPath i) ⟨#[]⟩ 0 0 none 0 0 (by rw [rm_size]; omega)
    rw [show ofS (rmPath i) = 47 :: rmP i from of_mk _, rm_enter h0 h1 hi] at this
    exact this)
theorem rm_file (d : Int) (n : Nat) : fileE (rmW d n).nodes (ofS ⟨#[47, 102, 97]⟩) = (some 1, 0) := rfl
theorem rm_named (d : Int) (n : Nat) : namedE (rmW d n).nodes (ofS ⟨#[47, 102, 97]⟩) = (0, some ⟨0, [102, 97], some 1⟩) := rfl
theorem rm_do2 (w W : World) (t : Nat) (d : Int) (i : Nat) (a : Addr) (B : Nat → Prop) (h0 : 8 ≤ d) (h1 : d ≤ 100) (hi : i < 200) (hO : OwnT w W t (rmW d (min i (rmR d))) B) (hX : BAt W (some a) 1 [1]) (ha : B a.block) (hB : ∀ k, B k → k < W.heap.size) : Calls Tryz.prog 12 #[ptrV t, callV 8 ⟨#[47, 102, 97]⟩ ⟨#[]⟩ (1024 * (i : Int)) 0 (.slice (some a) 1 1)] W fun e w' => e = .returned (.agg #[.int .i64 (if i < rmR d then 0 else 16), .slice none 0 0, .int .i64 0, .int .i64 0, .int .i64 0, .slice none 0 0, .int .i64 (if i < rmR d then 1 else 0)]) ∧ OwnT w w' t (rmW d (min (i + 1) (rmR d))) B ∧ (∀ k, B k → w'.heap[k]? = W.heap[k]?) ∧ W.heap.size ≤ w'.heap.size := by
  have hR : rmR d ≤ 100 := by unfold rmR; split <;> omega
  have hf := rm_fit h0 h1 (n := min i (rmR d)) (i := i) (by omega) hi rfl
  by_cases hr : i < rmR d
  · have e : min i (rmR d) = i := by omega
    have e2 : min (i + 1) (rmR d) = i + 1 := by omega
    rw [e] at hO hf
    rw [if_pos hr, if_pos hr, e2]
    refine own_do2 hO hB (fun Ls2 hT hno => ?_)
    have hap : a.block ∉ feet t Ls2 := fun h => hno _ h ha
    have := doo_write W t (rmW d i) Ls2 hT (rmW_ok (by omega)) ⟨#[47, 102, 97]⟩ ⟨#[]⟩ (1024 * (i : Int)) 0 a 1 1 [1] (by decide) 1 (rm_file d i) (by simp [rmW]) rfl (by omega) (by omega) (by omega) (by omega) (by omega) (by omega) hX hap (by show (rmF i).length ≤ 70000; simp [rmF, upto]; omega) (by
      have h := hf
      rw [decide_eq_true hr] at h
      exact h)
    rw [rm_write h0 h1 hi hr] at this
    exact this
  · have e : min i (rmR d) = rmR d := by omega
    have e2 : min (i + 1) (rmR d) = rmR d := by omega
    rw [e] at hO hf
    rw [if_neg hr, if_neg hr, e2]
    refine own_do hO hB (fun Ls hT => ?_)
    exact doo_full W t (rmW d (rmR d)) Ls hT (rmW_ok (by omega)) ⟨#[47, 102, 97]⟩ ⟨#[]⟩ (1024 * (i : Int)) 0 a 1 1 (by decide) 1 (rm_file d _) (by simp [rmW]) rfl (by omega) (by omega) (by omega) (by omega) (by show (rmF (rmR d)).length ≤ 70000; simp [rmF, upto]; omega) (by
      have h := hf
      rw [decide_eq_false hr] at h
      exact h)
/-- The tree behind the last call. -/
def rmG (d : Int) (n : Nat) : Tr := loseL { rmW d n with nodes := (rmW d n).nodes.modify 0 (fun x => x.del [102, 97]) } 1
theorem rm_do3 (w W : World) (t : Nat) (d : Int) (n : Nat) (B : Nat → Prop) (hn : n ≤ 200) (hO : OwnT w W t (rmW d n) B) (hB : ∀ k, B k → k < W.heap.size) : Calls Tryz.prog 12 #[ptrV t, callV 4 ⟨#[47, 102, 97]⟩ ⟨#[]⟩ 0 0 (.slice none 0 0)] W fun e w' => e = .returned (errV 0) ∧ OwnT w w' t (rmG d n) B ∧ (∀ k, B k → w'.heap[k]? = W.heap[k]?) ∧ W.heap.size ≤ w'.heap.size :=
  own_do hO hB (fun Ls hT => by
    have hok : ∀ x ∈ ({ rmW d n with nodes := (rmW d n).nodes.modify 0 (fun x => x.del [102, 97]) } : Tr).nodes, x.Ok := del_ok (rmW_ok (d := d) hn) 0 [102, 97]
    exact doo_unlink W t (rmW d n) Ls hT ⟨#[47, 102, 97]⟩ ⟨#[]⟩ 0 0 none 0 0 (by decide) 0 [102, 97] 1 (rm_named d n) (by simp [rmW]) rfl rm_fa (by simp [rmW]) rfl (by decide) (rmG d n) (Hid.mk (fun W' hT' => lose_last W' t { rmW d n with nodes := (rmW d n).nodes.modify 0 (fun x => x.del [102, 97]) } Ls hT' hok 0 1 (mkS [102, 97]) (by simp [rmW]) rfl (by show ¬ 0 < wrap64 (1 - 1); unfold wrap64; omega))))
theorem rmG_used (d : Int) (n : Nat) (hn : n ≤ 200) : (rmG d n).inodes = 15 ∧ (rmG d n).blocks = 1 := by
  constructor
  · show w64 (16 - 1) = 15
    unfold w64 wrap64
    omega
  · show w64 (rmU n - roomL ((rmF n).map (·.1))) = 1
    rw [rm_keys, rm_roomL hn]
    unfold rmU w64 wrap64
    omega
end Go.Proofs.YtehaoeclnmelhabGreat
