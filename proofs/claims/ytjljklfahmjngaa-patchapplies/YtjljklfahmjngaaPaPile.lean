/-
  The methods of a heap of changes, called through the interface.
-/
import Derived.Test.YtjljklfahmjngaaPaSee
import Derived.BigQuiet
namespace Go.Proofs.Ytjljklfahmjngaa
open Go Go.Proofs Go.RowKit Go.Shelf
attribute [local go_sem] Oper.semAt_some
/-- What a method by this name is, and whether it wants the pointer. -/
theorem m_rows : (Try.prog.info? 54).map (fun i => (["Len", "Less", "Swap", "Push", "Pop"].map (fun n => (i.methods.find? (·.name == n)).map (fun m => (m.func, m.path.toList.length))))) = some [some (some (76, false), 0), some (some (77, false), 0), some (some (78, false), 0), some (some (80, true), 0), some (some (79, true), 0)] := by kernel_rfl
set_option maxRecDepth 100000 in
theorem m_by (n : String) (f : FuncId) (p : Bool) (h : ((Try.prog.info? 54).bind (fun i => (i.methods.find? (·.name == n)).map (fun m => (m.func, m.path.toList)))) = some (some (f, p), [])) (w : World) (v : Value) : (method 216 54 v n).run Try.prog w = ((receiverAt 54 (.val v) p (some ((n.splitOn ".").getLastD n))).run Try.prog w).andThen fun r w' => .ok (f, r) w' := by
  cases hi : Try.prog.info? 54 with
  | none => rw [hi] at h; cases h
  | some i =>
    rw [hi] at h
    simp only [Option.bind_some] at h
    cases hm : i.methods.find? (·.name == n) with
    | none => rw [hm] at h; cases h
    | some m =>
      rw [hm] at h
      simp only [Option.map_some, Option.some.injEq, Prod.mk.injEq] at h
      have hpe : m.path = #[] := by
        apply Array.ext'
        simpa using h.2
      rw [show (216 : Nat) = 215 + 1 from rfl, method]
      simp only [typeInfo, Sem.run_bind]
      simp [hi, hm, h.1, follow, hpe]
theorem nil_chk (w : World) (a : Addr) (n : String) : (Builtin.ssaWrapNilChk_ #[54] 54 #[.pointer (some a), strVal "", strVal n]).run Try.prog w = .ok (.pointer (some a)) w := by kernel_rfl
theorem recv_val (w : World) (b : Nat) (n : String) (ao : Option Addr) (m c : Nat) (hc : w.cell? ⟨b, 0, none⟩ = some (.slice ao m c)) : (receiverAt 54 (.val (.pointer (some ⟨b, 0, none⟩))) false (some n)).run Try.prog w = .ok (.slice ao m c) w := by
  unfold receiverAt
  simp only [Sem.run_bind, run_underlying Try.underlying54, Result.andThen_ok, Place.get, Sem.run_pure, nil_chk]
  go_simp
theorem recv_ptr (w : World) (b : Nat) (n : String) : (receiverAt 54 (.val (.pointer (some ⟨b, 0, none⟩))) true (some n)).run Try.prog w = .ok (.pointer (some ⟨b, 0, none⟩)) w := by
  unfold receiverAt
  simp only [Sem.run_bind, run_underlying Try.underlying54, Result.andThen_ok, Place.get, Sem.run_pure]
theorem m_len (w : World) (b : Nat) (ao : Option Addr) (n c : Nat) (hc : w.cell? ⟨b, 0, none⟩ = some (.slice ao n c)) : (method 216 54 (.pointer (some ⟨b, 0, none⟩)) "Len").run Try.prog w = .ok (76, .slice ao n c) w := by
  rw [m_by "Len" 76 false (by kernel_rfl), recv_val w b _ ao n c hc]
  rfl
theorem m_less (w : World) (b : Nat) (ao : Option Addr) (n c : Nat) (hc : w.cell? ⟨b, 0, none⟩ = some (.slice ao n c)) : (method 216 54 (.pointer (some ⟨b, 0, none⟩)) "Less").run Try.prog w = .ok (77, .slice ao n c) w := by
  rw [m_by "Less" 77 false (by kernel_rfl), recv_val w b _ ao n c hc]
  rfl
theorem m_swap (w : World) (b : Nat) (ao : Option Addr) (n c : Nat) (hc : w.cell? ⟨b, 0, none⟩ = some (.slice ao n c)) : (method 216 54 (.pointer (some ⟨b, 0, none⟩)) "Swap").run Try.prog w = .ok (78, .slice ao n c) w := by
  rw [m_by "Swap" 78 false (by kernel_rfl), recv_val w b _ ao n c hc]
  rfl
theorem m_push (w : World) (b : Nat) : (method 216 54 (.pointer (some ⟨b, 0, none⟩)) "Push").run Try.prog w = .ok (80, .pointer (some ⟨b, 0, none⟩)) w := by
  rw [m_by "Push" 80 true (by kernel_rfl), recv_ptr w b]
  rfl
theorem m_pop (w : World) (b : Nat) : (method 216 54 (.pointer (some ⟨b, 0, none⟩)) "Pop").run Try.prog w = .ok (79, .pointer (some ⟨b, 0, none⟩)) w := by
  rw [m_by "Pop" 79 true (by kernel_rfl), recv_ptr w b]
  rfl
set_option maxRecDepth 100000 in
theorem len_any (w : World) (ao : Option Addr) (n c : Nat) : Calls Try.prog 76 #[.slice ao n c] w fun e w' => e = .returned (.int .i64 n) ∧ w' = w := by
  go_enter Try.func76, Try.ntmps76
  go_wp2
  go_ret
  exact ⟨rfl, rfl⟩
/-- Changes with their ranks, as cells, four each. -/
def Sy (H : List (Int × Pt)) : List Value := H.flatMap (fun s => .int .i64 s.1 :: s.2.cs)
def noS : Int × Pt := (0, noP)
theorem Sy_cons (s : Int × Pt) (H : List (Int × Pt)) : Sy (s :: H) = .int .i64 s.1 :: .int .i64 s.2.id :: .int .i64 s.2.at' :: s.2.val :: Sy H := rfl
theorem Sy_append (H K : List (Int × Pt)) : Sy (H ++ K) = Sy H ++ Sy K := by simp [Sy]
theorem Sy_length (H : List (Int × Pt)) : (Sy H).length = H.length * 4 := by
  induction H with
  | nil => rfl
  | cons s H ih => rw [Sy_cons]; simp [ih]; omega
theorem Sy_get (H : List (Int × Pt)) : ∀ (k : Nat), k < H.length → (Sy H)[k * 4]? = some (.int .i64 (H.getD k noS).1) ∧ (Sy H)[k * 4 + 1]? = some (.int .i64 (H.getD k noS).2.id) ∧ (Sy H)[k * 4 + 2]? = some (.int .i64 (H.getD k noS).2.at') ∧ (Sy H)[k * 4 + 3]? = some (H.getD k noS).2.val := by
  induction H with
  | nil => intro k h; simp at h
  | cons s H ih =>
    intro k h
    cases k with
    | zero => exact ⟨rfl, rfl, rfl, rfl⟩
    | succ k =>
      have := ih k (by simpa using h)
      rw [Sy_cons, show (k + 1) * 4 = k * 4 + 1 + 1 + 1 + 1 by omega]
      simpa using this
/-- The row of a heap: its cells. -/
theorem owns_spots {W : World} {base : Nat} {v : Value} {n : Nat} {H : List (Int × Pt)} (h : W.ownsRow base 56 4 v n (Sy H)) (hn : 0 < n) : ∃ g cap, v = .slice (some ⟨g, 0, none⟩) n cap ∧ base ≤ g ∧ g < W.heap.size ∧ H.length = n ∧ ∀ k, k < n → W.cell? ⟨g, k * 4, none⟩ = some (.int .i64 (H.getD k noS).1) ∧ W.cell? ⟨g, k * 4 + 1, none⟩ = some (.int .i64 (H.getD k noS).2.id) ∧ W.cell? ⟨g, k * 4 + 2, none⟩ = some (.int .i64 (H.getD k noS).2.at') ∧ W.cell? ⟨g, k * 4 + 3, none⟩ = some (H.getD k noS).2.val := by
  have hl := h.1
  rw [Sy_length] at hl
  rcases h.2 with ⟨rfl, h0⟩ | ⟨g, cap, cur, rfl, hg, hh, hnc, hm, hsz, ht⟩
  · omega
  · refine ⟨g, cap, rfl, hg, lt_of_block hh, by omega, fun k hk => ?_⟩
    have get : ∀ j, j < n * 4 → cur[j]? = (Sy H)[j]? := fun j hj => by
      rw [← Array.getElem?_toList, ← ht, List.getElem?_take, if_pos hj]
    rw [blk_cell hh, blk_cell hh, blk_cell hh, blk_cell hh, get _ (by omega), get _ (by omega), get _ (by omega), get _ (by omega)]
    exact Sy_get H k (by omega)
set_option maxRecDepth 100000 in
theorem less_any (w : World) (base : Nat) (v : Value) (n : Nat) (H : List (Int × Pt)) (h : w.ownsRow base 56 4 v n (Sy H)) (i j : Nat) (hi : i < n) (hj : j < n) :
    Calls Try.prog 77 #[v, .int .i64 i, .int .i64 j] w fun e w' => e = .returned (.bool (decide ((H.getD i noS).1 < (H.getD j noS).1))) ∧ ∃ q, w' = w.drewN q := by
  obtain ⟨g, cap, rfl, -, -, -, hc⟩ := owns_spots h (by omega)
  have x0 := (hc i hi).1
  have y0 := (hc j hj).1
  generalize (H.getD i noS).1 = ri at *
  generalize (H.getD j noS).1 = rj at *
  have e1 : (⟨g, 0, none⟩ : Addr).add (i * 4) = ⟨g, i * 4, none⟩ := by rw [add_at]; simp
  have e2 : (⟨g, 0, none⟩ : Addr).add (j * 4) = ⟨g, j * 4, none⟩ := by rw [add_at]; simp
  have hi' : (i : Int) < (n : Int) := by omega
  have hj' : (j : Int) < (n : Int) := by omega
  clear h hc hi hj
  go_enter Try.func77, Try.ntmps77
  go_wp2
  go_quiet (fail)
  go_wp2
  go_ret
  exact ⟨rfl, _, rfl⟩
end Go.Proofs.Ytjljklfahmjngaa
