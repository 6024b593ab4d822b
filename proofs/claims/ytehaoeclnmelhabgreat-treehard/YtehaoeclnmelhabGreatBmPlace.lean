/-
  Place, First and Count of the program and of the reference.
-/
import Derived.Test.YtehaoeclnmelhabGreatWords
import Derived.Test.YtehaoeclnmelhabGreatBmSpec
namespace Go.Proofs.YtehaoeclnmelhabGreat
open Go Go.Proofs Go.RowKit Go.Shelf
theorem results_tmp4 {fn : Func} {t u v x : Tmp} (h : fn.results = #[.tmp t, .tmp u, .tmp v, .tmp x]) (tmps : Array Value) (P : Program) (w : World) :
    (results fn tmps).run P w = .ok (.tuple #[tmps.getD t undef, tmps.getD u undef, tmps.getD v undef, tmps.getD x undef]) w := by
  simp [results, h]
/-- What Place answers. -/
def plV (n : Int) : Value := .tuple #[.int .i64 (blL n), .int .i64 (blX n), .int .i64 (blY n), .bool (blB n)]
theorem pl_no {n : Int} (h : n < 0 ∨ 65800 ≤ n) : plV n = .tuple #[.int .i64 0, .int .i64 0, .int .i64 0, .bool false] := by
  have e : blB n = false := by
    cases hb : blB n with
    | false => rfl
    | true => have := bl_iff.1 hb; omega
  simp [plV, blL, blX, blY, e]
theorem pl_yes {n : Int} (h : 0 ≤ n) (h' : n < 65800) : plV n = .tuple #[.int .i64 (if n < 8 then 0 else if n < 264 then 1 else 2), .int .i64 (if n < 8 then n else if n < 264 then n - 8 else (n - 264) / 256), .int .i64 (if n < 264 then 0 else (n - 264) % 256), .bool true] := by
  have e : blB n = true := bl_iff.2 ⟨h, h'⟩
  simp [plV, blL, blX, blY, e]
set_option maxRecDepth 100000 in
theorem place_any (w : World) (n : Int) : Calls Tryz.prog 80 #[.int .i64 n] w fun e w' => e = .returned (plV n) ∧ w' = w := by
  by_cases h0 : n < 0
  · rw [pl_no (.inl h0)]
    go_enter Tryz.func80, Tryz.ntmps80
    go_wp2
    refine bodyPost_ret (results_tmp4 rfl _ _ _) rfl ?_
    exact ⟨rfl, rfl⟩
  · by_cases h1 : 65800 ≤ n
    · rw [pl_no (.inr h1)]
      go_enter Tryz.func80, Tryz.ntmps80
      go_wp2
      refine bodyPost_ret (results_tmp4 rfl _ _ _) rfl ?_
      exact ⟨rfl, rfl⟩
    · rw [pl_yes (by omega) (by omega)]
      by_cases h2 : n < 8
      · rw [if_pos h2, if_pos h2, if_pos (by omega)]
        go_enter Tryz.func80, Tryz.ntmps80
        go_wp2
        refine bodyPost_ret (results_tmp4 rfl _ _ _) rfl ?_
        exact ⟨rfl, rfl⟩
      · by_cases h3 : n < 264
        · rw [if_neg h2, if_neg h2, if_pos h3, if_pos h3, if_pos h3]
          have e1 : IntKind.i64.wrap (n - 8) = n - 8 := by rw [IntKind.wrap_i64]; omega
          go_enter Tryz.func80, Tryz.ntmps80
          go_wp2
          refine bodyPost_ret (results_tmp4 rfl _ _ _) rfl ?_
          exact ⟨rfl, rfl⟩
        · rw [if_neg h2, if_neg h2, if_neg h3, if_neg h3, if_neg h3]
          have e1 : IntKind.i64.wrap (n - 264) = n - 264 := by rw [IntKind.wrap_i64]; omega
          have e2 : Int.tdiv (n - 264) 256 = (n - 264) / 256 := by rw [Int.tdiv_eq_ediv_of_nonneg (by omega)]
          have e3 : Int.tmod (n - 264) 256 = (n - 264) % 256 := by rw [Int.tmod_eq_emod_of_nonneg (by omega)]
          have e4 : IntKind.i64.wrap ((n - 264) / 256) = (n - 264) / 256 := by rw [IntKind.wrap_i64]; omega
          have e5 : IntKind.i64.wrap ((n - 264) % 256) = (n - 264) % 256 := by rw [IntKind.wrap_i64]; omega
          go_enter Tryz.func80, Tryz.ntmps80
          go_wp2
          refine bodyPost_ret (results_tmp4 rfl _ _ _) rfl ?_
          exact ⟨rfl, rfl⟩
/-- What First answers. -/
def fsV (l i : Int) : Value := .tuple #[.int .i64 (fsI l i), .bool (fsB l i)]
theorem fs_no {l i : Int} (h : ¬ ((l = 0 ∧ 0 ≤ i ∧ i < 8) ∨ (l = 1 ∧ i = 0) ∨ (l = 2 ∧ 0 ≤ i ∧ i < 256))) : fsV l i = .tuple #[.int .i64 0, .bool false] := by
  have e : fsB l i = false := decide_eq_false h
  simp [fsV, fsI, e]
theorem fs_0 {i : Int} (h : 0 ≤ i) (h' : i < 8) : fsV 0 i = .tuple #[.int .i64 i, .bool true] := by
  have e : fsB 0 i = true := decide_eq_true (.inl ⟨rfl, h, h'⟩)
  simp [fsV, fsI, e]
theorem fs_1 : fsV 1 0 = .tuple #[.int .i64 8, .bool true] := rfl
theorem fs_2 {i : Int} (h : 0 ≤ i) (h' : i < 256) : fsV 2 i = .tuple #[.int .i64 (264 + 256 * i), .bool true] := by
  have e : fsB 2 i = true := decide_eq_true (.inr (.inr ⟨rfl, h, h'⟩))
  simp [fsV, fsI, e]
end Go.Proofs.YtehaoeclnmelhabGreat
