/-
  A result's box; what an index of eight letters is. (For TreeMoves.)
-/
import Derived.Test.YtehaoeclnmelhabGreatTrMvL
namespace Go.Proofs.YtehaoeclnmelhabGreat
open Go Go.Proofs Go.RowKit Go.Shelf Go.Sort

/-- A result by its seven cells. -/
def rsO (v0 v1 v2 v3 v4 v5 v6 : Value) : Obj := .cells #[v0, v1, v2, v3, v4, v5, v6] 32
def rsZ : Obj := rsO (.int .i64 0) (.slice none 0 0) (.int .i64 0) (.int .i64 0) (.int .i64 0) (.slice none 0 0) (.int .i64 0)
set_option maxRecDepth 100000 in
theorem exec_allocR {ev : Operand → Value} {oi : Oper} {W : World} (ho : oi.op = .alloc 32) : (execOp ev oi).run Tryz.prog W = .ok (.value (.pointer (some ⟨W.heap.size, 0, none⟩))) (W.alloc rsZ) := by
  unfold execOp rsZ rsO
  simp only [ho]
  go_simp
set_option maxRecDepth 100000 in
/-- A result into a variable. -/
theorem exec_storeR {W : World} {b : Nat} (hb : W.heap[b]? = some rsZ) (e0 : Int) : ∃ W', (∀ (ev : Operand → Value) (oi : Oper) (p x : Operand), oi.op = .store 32 p x → ev p = .pointer (some ⟨b, 0, none⟩) → ev x = .agg #[.int .i64 e0, .slice none 0 0, .int .i64 0, .int .i64 0, .int .i64 0, .slice none 0 0, .int .i64 0] → (execOp ev oi).run Tryz.prog W = .ok .skip W') ∧ W'.heap[b]? = some (rsO (.int .i64 e0) (.slice none 0 0) (.int .i64 0) (.int .i64 0) (.int .i64 0) (.slice none 0 0) (.int .i64 0)) ∧ Only (fun k => k = b) W W' := by
  unfold rsZ rsO at hb
  have b1 := blk_set (i := 0) (u := (.int .i64 e0)) hb
  have b2 := blk_set (i := 1) (u := (.slice none 0 0)) b1
  have b3 := blk_set (i := 2) (u := (.int .i64 0)) b2
  have b4 := blk_set (i := 3) (u := (.int .i64 0)) b3
  have b5 := blk_set (i := 4) (u := (.int .i64 0)) b4
  have b6 := blk_set (i := 5) (u := (.slice none 0 0)) b5
  have b7 := blk_set (i := 6) (u := (.int .i64 0)) b6
  have c0 : W.cell? ⟨b, 0, none⟩ = some (.int .i64 0) := by rw [blk_cell hb]; rfl
  have f0 : W.frozen? ⟨b, 0, none⟩ = false := blk_free hb 0
  have c1 : (W.setCell ⟨b, 0, none⟩ (.int .i64 e0)).cell? ⟨b, 1, none⟩ = some (.slice none 0 0) := by rw [blk_cell b1]; rfl
  have f1 : (W.setCell ⟨b, 0, none⟩ (.int .i64 e0)).frozen? ⟨b, 1, none⟩ = false := blk_free b1 1
  have c2 : ((W.setCell ⟨b, 0, none⟩ (.int .i64 e0)).setCell ⟨b, 1, none⟩ (.slice none 0 0)).cell? ⟨b, 2, none⟩ = some (.int .i64 0) := by rw [blk_cell b2]; rfl
  have f2 : ((W.setCell ⟨b, 0, none⟩ (.int .i64 e0)).setCell ⟨b, 1, none⟩ (.slice none 0 0)).frozen? ⟨b, 2, none⟩ = false := blk_free b2 2
  have c3 : (((W.setCell ⟨b, 0, none⟩ (.int .i64 e0)).setCell ⟨b, 1, none⟩ (.slice none 0 0)).setCell ⟨b, 2, none⟩ (.int .i64 0)).cell? ⟨b, 3, none⟩ = some (.int .i64 0) := by rw [blk_cell b3]; rfl
  have f3 : (((W.setCell ⟨b, 0, none⟩ (.int .i64 e0)).setCell ⟨b, 1, none⟩ (.slice none 0 0)).setCell ⟨b, 2, none⟩ (.int .i64 0)).frozen? ⟨b, 3, none⟩ = false := blk_free b3 3
  have c4 : ((((W.setCell ⟨b, 0, none⟩ (.int .i64 e0)).setCell ⟨b, 1, none⟩ (.slice none 0 0)).setCell ⟨b, 2, none⟩ (.int .i64 0)).setCell ⟨b, 3, none⟩ (.int .i64 0)).cell? ⟨b, 4, none⟩ = some (.int .i64 0) := by rw [blk_cell b4]; rfl
  have f4 : ((((W.setCell ⟨b, 0, none⟩ (.int .i64 e0)).setCell ⟨b, 1, none⟩ (.slice none 0 0)).setCell ⟨b, 2, none⟩ (.int .i64 0)).setCell ⟨b, 3, none⟩ (.int .i64 0)).frozen? ⟨b, 4, none⟩ = false := blk_free b4 4
  have c5 : (((((W.setCell ⟨b, 0, none⟩ (.int .i64 e0)).setCell ⟨b, 1, none⟩ (.slice none 0 0)).setCell ⟨b, 2, none⟩ (.int .i64 0)).setCell ⟨b, 3, none⟩ (.int .i64 0)).setCell ⟨b, 4, none⟩ (.int .i64 0)).cell? ⟨b, 5, none⟩ = some (.slice none 0 0) := by rw [blk_cell b5]; rfl
  have f5 : (((((W.setCell ⟨b, 0, none⟩ (.int .i64 e0)).setCell ⟨b, 1, none⟩ (.slice none 0 0)).setCell ⟨b, 2, none⟩ (.int .i64 0)).setCell ⟨b, 3, none⟩ (.int .i64 0)).setCell ⟨b, 4, none⟩ (.int .i64 0)).frozen? ⟨b, 5, none⟩ = false := blk_free b5 5
  have c6 : ((((((W.setCell ⟨b, 0, none⟩ (.int .i64 e0)).setCell ⟨b, 1, none⟩ (.slice none 0 0)).setCell ⟨b, 2, none⟩ (.int .i64 0)).setCell ⟨b, 3, none⟩ (.int .i64 0)).setCell ⟨b, 4, none⟩ (.int .i64 0)).setCell ⟨b, 5, none⟩ (.slice none 0 0)).cell? ⟨b, 6, none⟩ = some (.int .i64 0) := by rw [blk_cell b6]; rfl
  have f6 : ((((((W.setCell ⟨b, 0, none⟩ (.int .i64 e0)).setCell ⟨b, 1, none⟩ (.slice none 0 0)).setCell ⟨b, 2, none⟩ (.int .i64 0)).setCell ⟨b, 3, none⟩ (.int .i64 0)).setCell ⟨b, 4, none⟩ (.int .i64 0)).setCell ⟨b, 5, none⟩ (.slice none 0 0)).frozen? ⟨b, 6, none⟩ = false := blk_free b6 6
  refine ⟨(((((((W.setCell ⟨b, 0, none⟩ (.int .i64 e0)).setCell ⟨b, 1, none⟩ (.slice none 0 0)).setCell ⟨b, 2, none⟩ (.int .i64 0)).setCell ⟨b, 3, none⟩ (.int .i64 0)).setCell ⟨b, 4, none⟩ (.int .i64 0)).setCell ⟨b, 5, none⟩ (.slice none 0 0)).setCell ⟨b, 6, none⟩ (.int .i64 0)), fun ev oi p x ho hp hx => ?_, ?_, ?_⟩
  · unfold execOp
    simp only [ho, hp, hx]
    go_simp
  · rw [b7]
    rfl
  · exact ((((((((Only.refl (fun k => k = b) W).setCell (p := ⟨b, 0, none⟩) (.inl rfl) _).setCell (p := ⟨b, 1, none⟩) (.inl rfl) _).setCell (p := ⟨b, 2, none⟩) (.inl rfl) _).setCell (p := ⟨b, 3, none⟩) (.inl rfl) _).setCell (p := ⟨b, 4, none⟩) (.inl rfl) _).setCell (p := ⟨b, 5, none⟩) (.inl rfl) _).setCell (p := ⟨b, 6, none⟩) (.inl rfl) _)
theorem OwnT.only {w W W' : World} {t b : Nat} {σ : Tr} {B : Nat → Prop} (h : OwnT w W t σ B) (hb : B b) (hw : w.heap.size ≤ b) (ho : Only (fun k => k = b) W W') : OwnT w W' t σ B := by
  obtain ⟨h1, Ls, h2, h3⟩ := h
  refine ⟨((Only.of_below (S := fun _ => False) h1 (fun k h1 h2 => by omega)).trans ho (fun i hi => .inr (by omega))).below (Nat.le_refl _) (fun _ h => h.elim), Ls, ?_, h3⟩
  exact h2.kept (fun k hk => ho.block k (h2.lt k hk) (fun e => (h3 k hk).2 (e ▸ hb)))
/-- The letter, and the path that ends with it. -/
def mvLet (q : Nat) : ByteArray := ⟨#[UInt8.ofNat (97 + q)]⟩
def mvPath (q : Nat) : ByteArray := ⟨#[47, 97, 47, 100, 47, UInt8.ofNat (97 + q)]⟩
def mvP (q : Nat) : List UInt8 := [UInt8.ofNat (97 + q)]
theorem mv_path (q : Nat) : ofS (mvPath q) = [47, 97, 47, 100, 47, UInt8.ofNat (97 + q)] := rfl
theorem mv_pathsplit {q : Nat} (h : q < 8) : splitL (ofS (mvPath q)) = some [[97], [100], mvP q] := by
  rw [mv_path]
  match q, h with
  | 0, _ => decide +kernel
  | 1, _ => decide +kernel
  | 2, _ => decide +kernel
  | 3, _ => decide +kernel
  | 4, _ => decide +kernel
  | 5, _ => decide +kernel
  | 6, _ => decide +kernel
  | 7, _ => decide +kernel
theorem mv_and (x : Int) : ∃ q : Nat, q < 8 ∧ bits .and .i64 x 7 = (q : Int) := by
  have h : ((BitVec.ofInt 64 x) &&& (BitVec.ofInt 64 7)).toNat ≤ 7 := by
    rw [BitVec.toNat_and]
    exact Nat.and_le_right
  refine ⟨((BitVec.ofInt 64 x) &&& (BitVec.ofInt 64 7)).toNat, by omega, ?_⟩
  show IntKind.i64.wrap ((((BitVec.ofInt 64 x) &&& (BitVec.ofInt 64 7)).toNat : Nat) : Int) = _
  generalize ((BitVec.ofInt 64 x) &&& (BitVec.ofInt 64 7)).toNat = n at *
  rw [IntKind.wrap_i64]
  omega
theorem exec_and7 {ev : Operand → Value} {oi : Oper} {x y : Operand} {u : TypeId} {w : World} (n : Int) (q : Nat) (hq : bits .and .i64 n 7 = (q : Int)) (ho : oi.op = .binOp .and 3 x y u) (hx : ev x = .int .i64 n) (hy : ev y = .int .i64 7) : (execOp ev oi).run Tryz.prog w = .ok (.value (.int .i64 (q : Int))) w := by
  unfold execOp
  rw [ho]
  simp only [hx, hy]
  go_simp
theorem exec_inc8 {ev : Operand → Value} {oi : Oper} {x y : Operand} {u : TypeId} {w : World} (q : Nat) (hq : q < 8) (ho : oi.op = .binOp .add 3 x y u) (hx : ev x = .int .i64 q) (hy : ev y = .int .i64 1) : (execOp ev oi).run Tryz.prog w = .ok (.value (.int .i64 ((q : Int) + 1))) w := by
  unfold execOp
  rw [ho]
  simp only [hx, hy]
  go_simp
  rw [IntKind.wrap_i64]
  omega
set_option maxRecDepth 100000 in
theorem exec_let {ev : Operand → Value} {oi : Oper} {x y : Operand} {w : World} (q : Nat) (hq : q < 8) (ho : oi.op = .slice 9 (.const (.string ⟨#[97, 98, 99, 100, 101, 102, 103, 104]⟩)) (some x) (some y) none) (hv : ev (.const (.string ⟨#[97, 98, 99, 100, 101, 102, 103, 104]⟩)) = .string ⟨#[97, 98, 99, 100, 101, 102, 103, 104]⟩) (hx : ev x = .int .i64 q) (hy : ev y = .int .i64 ((q : Int) + 1)) :
    (execOp ev oi).run Tryz.prog w = .ok (.value (.string (mvLet q))) w := by
  unfold execOp
  rw [ho]
  simp only [hx, hy, hv, Option.map]
  match q, hq with
  | 0, _ => rfl
  | 1, _ => rfl
  | 2, _ => rfl
  | 3, _ => rfl
  | 4, _ => rfl
  | 5, _ => rfl
  | 6, _ => rfl
  | 7, _ => rfl
set_option maxRecDepth 100000 in
theorem exec_path {ev : Operand → Value} {oi : Oper} {x y : Operand} {u : TypeId} {w : World} (q : Nat) (hq : q < 8) (ho : oi.op = .binOp .add 9 x y u) (hx : ev x = .string ⟨#[47, 97, 47, 100, 47]⟩) (hy : ev y = .string (mvLet q)) : (execOp ev oi).run Tryz.prog w = .ok (.value (.string (mvPath q))) w := by
  unfold execOp
  rw [ho]
  simp only [hx, hy]
  match q, hq with
  | 0, _ => rfl
  | 1, _ => rfl
  | 2, _ => rfl
  | 3, _ => rfl
  | 4, _ => rfl
  | 5, _ => rfl
  | 6, _ => rfl
  | 7, _ => rfl
/-- What a name makes of the tree. -/
def mvZ (us : List (List UInt8)) (p : List UInt8) : Int := if p ∈ us then 11 else 0
def mvU (us : List (List UInt8)) (p : List UInt8) : List (List UInt8) := if p ∈ us then us else us ++ [p]
theorem mv_do (w W : World) (t : Nat) (us : List (List UInt8)) (q : Nat) (B : Nat → Prop) (hn : us.length < 8) (hq : q < 8) (hO : OwnT w W t (mvA us) B) (hB : ∀ k, B k → k < W.heap.size) : Calls Tryz.prog 12 #[ptrV t, callV 1 (mvPath q) ⟨#[]⟩ 0 0 (.slice none 0 0)] W fun e w' => e = .returned (errV (mvZ us (mvP q))) ∧ OwnT w w' t (mvA (mvU us (mvP q))) B ∧ (∀ k, B k → w'.heap[k]? = W.heap[k]?) ∧ W.heap.size ≤ w'.heap.size :=
  own_do hO hB (fun Ls hT => by
    have := doo_create W t _ Ls hT (mvA_ok (by omega)) (mvPath q) ⟨#[]⟩ 0 0 none 0 0 (by show 6 ≤ 16777216; omega)
    by_cases hp : mvP q ∈ us
    · rw [mv_enter_old (mv_pathsplit hq) hp] at this
      unfold mvZ mvU
      rw [if_pos hp, if_pos hp]
      exact this
    · rw [mv_enter_new (mv_pathsplit hq) hp hn] at this
      unfold mvZ mvU
      rw [if_neg hp, if_neg hp]
      exact this)
theorem mv_to (w W : World) (t : Nat) (us : List (List UInt8)) (B : Nat → Prop) (hn : us.length ≤ 8) (hO : OwnT w W t (mvA us) B) (hB : ∀ k, B k → k < W.heap.size) : Calls Tryz.prog 12 #[ptrV t, callV 6 ⟨#[47, 97, 47, 100]⟩ ⟨#[47, 98, 47, 101]⟩ 0 0 (.slice none 0 0)] W fun e w' => e = .returned (errV 0) ∧ OwnT w w' t (mvB us) B ∧ (∀ k, B k → w'.heap[k]? = W.heap[k]?) ∧ W.heap.size ≤ w'.heap.size :=
  own_do hO hB (fun Ls hT => by
    have := doo_move W t _ Ls hT (mvA_ok hn) ⟨#[47, 97, 47, 100]⟩ ⟨#[47, 98, 47, 101]⟩ 0 0 none 0 0 (by decide) (by decide) [[97]] [[98]] [100] [101] mv_sp1 mv_sp2 1 3 2 (mv_spot1 us) (mv_spot2 us) (by simp [mvA]) (mv_way1 us) rfl (by decide) (by show (2 : Int) < 32000; decide) (mv_fitA hn)
    rw [mv_there hn] at this
    exact this)
theorem mv_fro (w W : World) (t : Nat) (us : List (List UInt8)) (B : Nat → Prop) (hn : us.length ≤ 8) (hO : OwnT w W t (mvB us) B) (hB : ∀ k, B k → k < W.heap.size) : Calls Tryz.prog 12 #[ptrV t, callV 6 ⟨#[47, 98, 47, 101]⟩ ⟨#[47, 97, 47, 100]⟩ 0 0 (.slice none 0 0)] W fun e w' => e = .returned (errV 0) ∧ OwnT w w' t (mvA us) B ∧ (∀ k, B k → w'.heap[k]? = W.heap[k]?) ∧ W.heap.size ≤ w'.heap.size :=
  own_do hO hB (fun Ls hT => by
    have := doo_move W t _ Ls hT (mvB_ok hn) ⟨#[47, 98, 47, 101]⟩ ⟨#[47, 97, 47, 100]⟩ 0 0 none 0 0 (by decide) (by decide) [[98]] [[97]] [101] [100] mv_sp2 mv_sp1 2 3 1 (mv_spot3 us) (mv_spot4 us) (by simp [mvB]) (mv_way2 us) rfl (by decide) (by show (2 : Int) < 32000; decide) (mv_fitB hn)
    rw [mv_back hn] at this
    exact this)
theorem mv_stat (w W : World) (t : Nat) (us : List (List UInt8)) (B : Nat → Prop) (s : ByteArray) (hs : s.size ≤ 16777216) (e0 e2 e3 e4 : Int) (hv : statV (mvB us).nodes (ofS s) = .agg #[.int .i64 e0, .slice none 0 0, .int .i64 e2, .int .i64 e3, .int .i64 e4, .slice none 0 0, .int .i64 0]) (hO : OwnT w W t (mvB us) B) (hB : ∀ k, B k → k < W.heap.size) : Calls Tryz.prog 12 #[ptrV t, callV 10 s ⟨#[]⟩ 0 0 (.slice none 0 0)] W fun e w' => e = .returned (.agg #[.int .i64 e0, .slice none 0 0, .int .i64 e2, .int .i64 e3, .int .i64 e4, .slice none 0 0, .int .i64 0]) ∧ OwnT w w' t (mvB us) B ∧ (∀ k, B k → w'.heap[k]? = W.heap[k]?) ∧ W.heap.size ≤ w'.heap.size :=
  own_do hO hB (fun Ls hT => doo_stat W t _ Ls hT s ⟨#[]⟩ 0 0 none 0 0 hs e0 e2 e3 e4 hv)
theorem mv_ls (w W : World) (t : Nat) (us : List (List UInt8)) (B : Nat → Prop) (hn : us.length ≤ 8) (hO : OwnT w W t (mvB us) B) (hB : ∀ k, B k → k < W.heap.size) : Calls Tryz.prog 12 #[ptrV t, callV 11 ⟨#[47, 98, 47, 101]⟩ ⟨#[]⟩ 0 0 (.slice none 0 0)] W fun e w' => ∃ ao c, e = .returned (.agg #[.int .i64 0, .slice none 0 0, .int .i64 0, .int .i64 0, .int .i64 0, .slice ao us.length c, .int .i64 0]) ∧ OwnT w w' t (mvB us) B ∧ (∀ k, B k → w'.heap[k]? = W.heap[k]?) ∧ W.heap.size ≤ w'.heap.size := by
  obtain ⟨h1, Ls, h2, h3⟩ := hO
  refine (doo_list W t _ Ls h2 ⟨#[47, 98, 47, 101]⟩ ⟨#[]⟩ 0 0 none 0 0 (by decide) 3 (mv_nodeB us) rfl (by show (mvD us).length ≤ 16777216; rw [mvD_len (by omega)]; omega)).mono ?_
  rintro e w' ⟨ao, c, rfl, -, -, -, -, ⟨Ls', h4, h5⟩, h6⟩
  refine ⟨ao, c, ?_, ⟨?_, Ls', h4, fun k hk => ?_⟩, fun k hk => h6.block k (hB k hk) (fun hf => (h3 k hf).2 hk), h6.size⟩
  · rw [show (nodeAt (mvB us).nodes 3).slots = mvD us from rfl, mv_list]
  · exact ((Only.of_below (S := fun _ => False) h1 (fun k h1 h2 => by omega)).trans h6 (fun i hi => .inr (h3 i hi).1)).below (Nat.le_refl _) (fun _ h => h.elim)
  · rcases h5 k hk with h | h
    · exact h3 k h
    · exact ⟨Nat.le_trans h1.size h, fun hb => by have := hB k hb; omega⟩
theorem mv_first (w W : World) (t : Nat) (σ : Tr) (s : ByteArray) (σ' : Tr) (hok : ∀ x ∈ σ.nodes, x.Ok) (hs : s.size ≤ 16777216) (he : enterS σ (ofS s) newD = (0, σ')) (hO : OwnT w W t σ (fun _ => False)) : Calls Tryz.prog 12 #[ptrV t, callV 2 s ⟨#[]⟩ 0 0 (.slice none 0 0)] W fun e w' => e = .returned (errV 0) ∧ OwnT w w' t σ' (fun _ => False) ∧ (∀ k : Nat, False → w'.heap[k]? = W.heap[k]?) ∧ W.heap.size ≤ w'.heap.size :=
  own_do hO (fun k h => h.elim) (fun Ls hT => by
    have := doo_mkdir W t _ Ls hT hok s ⟨#[]⟩ 0 0 none 0 0 hs
    rw [he] at this
    exact this)
end Go.Proofs.YtehaoeclnmelhabGreat
