/-
  DinodePointers: the pointers of any block, and the block of any pointers.
-/
import Derived.Test.YtnajpnnmiocckaaPtrFns
namespace Go.Proofs.Ytnajpnnmiocckaa
open Go Go.Proofs Go.RowKit Go.Shelf

theorem exec_strneq {ev : Operand → Value} {oi : Oper} {x y : Operand} {u : TypeId} {s t : ByteArray} {w : World} (c : Bool) (hc : (s.toList == t.toList) = c) (ho : oi.op = .binOp .neq 9 x y u) (hx : ev x = .string s) (hy : ev y = .string t) : (execOp ev oi).run Try.prog w = .ok (.value (.bool (!c))) w := by
  subst hc
  unfold execOp
  rw [ho]
  simp only [hx, hy]
  go_simp
theorem exec_streql {ev : Operand → Value} {oi : Oper} {x y : Operand} {u : TypeId} {s t : ByteArray} {w : World} (c : Bool) (hc : (s.toList == t.toList) = c) (ho : oi.op = .binOp .eql 9 x y u) (hx : ev x = .string s) (hy : ev y = .string t) : (execOp ev oi).run Try.prog w = .ok (.value (.bool c)) w := by
  subst hc
  unfold execOp
  rw [ho]
  simp only [hx, hy]
  go_simp
section
variable {w : World} {ops : Array Oper} {rest : List Oper} {o : Oper} {a : Act} {Q : Exit → Act → World → Prop}
theorem wpL_strneq (x y : Operand) (u : TypeId) (ho : o.op = .binOp .neq 9 x y u) (hw : Region.wanted o (yielded ops a.tmps) = true) (s t : ByteArray) (c : Bool) (hc : (s.toList == t.toList) = c) (hx : a.eval x = .string s) (hy : a.eval y = .string t) (h : wpList Try.prog ops Q rest (a.put o.dst (.bool (!c))) w) : wpList Try.prog ops Q (o :: rest) a w :=
  wpList_known hw _ _ (exec_strneq c hc ho hx hy) h
theorem wpL_streql (x y : Operand) (u : TypeId) (ho : o.op = .binOp .eql 9 x y u) (hw : Region.wanted o (yielded ops a.tmps) = true) (s t : ByteArray) (c : Bool) (hc : (s.toList == t.toList) = c) (hx : a.eval x = .string s) (hy : a.eval y = .string t) (h : wpList Try.prog ops Q rest (a.put o.dst (.bool c)) w) : wpList Try.prog ops Q (o :: rest) a w :=
  wpList_known hw _ _ (exec_streql c hc ho hx hy) h
end

theorem _root_.Go.RowKit.Below.drewN {B : Nat} {a w : World} (h : Below B a w) (m : Nat) : Below B a (w.drewN m) := ⟨h.os, h.tape, h.output, h.size, h.block⟩
theorem allL_cons (ys r : List Int) (h : ys.length = 4) : allL 4 (ys ++ r) = numL ys :: allL 4 r := by
  unfold allL
  rw [List.length_append, h, show (4 + r.length) / 4 = r.length / 4 + 1 by omega, List.range_succ_eq_map, List.map_cons, List.map_map]
  congr 1
  · rw [Nat.mul_zero, List.drop_zero, List.take_left' h]
  · apply List.map_congr_left
    intro i _
    simp only [Function.comp]
    rw [show 4 * Nat.succ i = 4 + 4 * i by omega, ← List.drop_drop, List.drop_left' h]
theorem leL_numL (ys : List Int) (h : ys.length = 4) (hb : ∀ x ∈ ys, 0 ≤ x ∧ x ≤ 255) : leL (numL ys) 4 = ys := by
  match ys, h with
  | [a, b, c, d], _ =>
    have h1 := hb a (by simp)
    have h2 := hb b (by simp)
    have h3 := hb c (by simp)
    have h4 := hb d (by simp)
    have e : ∀ n : Int, leL n 4 = [n % 256, n / 256 % 256, n / 65536 % 256, n / 16777216 % 256] := by
      intro n
      simp [leL, List.range_succ]
    rw [e]
    simp only [numL]
    congr 1
    · omega
    congr 1
    · omega
    congr 1
    · omega
    congr 1
    omega
theorem leLs_allL (m : Nat) (xs : List Int) (h : xs.length = 4 * m) (hb : ∀ x ∈ xs, 0 ≤ x ∧ x ≤ 255) : leLs 4 (allL 4 xs) = xs ∧ ∀ y ∈ allL 4 xs, 0 ≤ y ∧ y ≤ 4294967295 := by
  induction m generalizing xs with
  | zero =>
    obtain rfl : xs = [] := List.eq_nil_of_length_eq_zero h
    exact ⟨rfl, fun y hy => by simp [allL] at hy⟩
  | succ m ih =>
    have e : xs = xs.take 4 ++ xs.drop 4 := (List.take_append_drop 4 xs).symm
    have hl : (xs.take 4).length = 4 := by rw [List.length_take]; omega
    have ht : ∀ x ∈ xs.take 4, 0 ≤ x ∧ x ≤ 255 := take_bound xs hb 4
    obtain ⟨i1, i2⟩ := ih (xs.drop 4) (by rw [List.length_drop]; omega) (drop_bound xs hb 4)
    have ea : allL 4 xs = numL (xs.take 4) :: allL 4 (xs.drop 4) := by
      conv => lhs; rw [e]
      exact allL_cons _ _ hl
    rw [ea]
    refine ⟨?_, ?_⟩
    · rw [leLs_cons, leL_numL _ hl ht, i1, ← e]
    · intro y hy
      rcases List.mem_cons.1 hy with rfl | hy
      · have := numL_bound (xs.take 4) ht
        rw [hl, show (256 : Int) ^ 4 = 4294967296 by decide] at this
        omega
      · exact i2 y hy
theorem pp_all (xs : List Int) (h : xs.length = 1024) (hb : ∀ x ∈ xs, 0 ≤ x ∧ x ≤ 255) : ppB (allL 4 xs) = true ∧ ppL (allL 4 xs) = xs := by
  obtain ⟨h1, h2⟩ := leLs_allL 256 xs h hb
  have hl : (allL 4 xs).length = 256 := by rw [allL_length, h]
  refine ⟨?_, ?_⟩
  · unfold ppB
    rw [hl, fitL_iff.2 h2]
    rfl
  · unfold ppL
    rw [h1, hl]
    simp [zeros]

theorem ptrs_long (w : World) (ao : Option Addr) (n c : Nat) (lo : Option Addr) (m lc : Nat) (hn : n ≤ 9223372036854775807) (hm : m ≤ 9223372036854775807) (h : 3000 < n ∨ 600 < m) :
    Calls Try.prog 5 #[.slice ao n c, .slice lo m lc] w fun e w' => e = .returned (.bool true) ∧ Below w.heap.size w w' := by
  by_cases h1 : 3000 < n
  · have h5 : (3000 : Int) < (n : Int) := by omega
    go_enter Try.func5, Try.ntmps5
    go_wp2_with (go_at_call 8; refine (alive_any _).mono ?_; rintro e w1 ⟨rfl, hB⟩; have HB1 := Hid.mk hB; clear hB)
    go_ret
    exact ⟨rfl, HB1.out⟩
  · have h5 : decide ((3000 : Int) < (n : Int)) = false := decide_eq_false (by omega)
    have h6 : (600 : Int) < (m : Int) := by omega
    go_enter Try.func5, Try.ntmps5
    go_wp2_with (go_at_call 8; refine (alive_any _).mono ?_; rintro e w1 ⟨rfl, hB⟩; have HB1 := Hid.mk hB; clear hB)
    go_ret
    exact ⟨rfl, HB1.out⟩

set_option maxRecDepth 100000 in
set_option maxHeartbeats 4000000 in
theorem ptrs_no (w : World) (ao : Option Addr) (n c : Nat) (lo : Option Addr) (m lc : Nat) (ls : List Int) (hl : LAt w lo m ls) (hn : n ≤ 3000) (hm : m ≤ 600) (hne : n ≠ 1024) :
    Calls Try.prog 5 #[.slice ao n c, .slice lo m lc] w fun e w' => e = .returned (.bool true) ∧ Below w.heap.size w w' := by
  have hn5 : decide ((3000 : Int) < (n : Int)) = false := decide_eq_false (by omega)
  have hm5 : decide ((600 : Int) < (m : Int)) = false := decide_eq_false (by omega)
  have HLA : Hid (∀ W, Below w.heap.size w W → LAt W lo m ls) := Hid.mk (fun W hB => hl.only (Only.of_new (fun _ => False) hB) (fun _ _ _ h => h))
  have h1 : ((n : Int) == 1024) = false := by simp; omega
  have h2 : ¬ ((n : Int) = 1024) := by omega
  clear hl
  cases hp : ppB ls with
  | false =>
    have HPK := Hid.mk (fun W (h : LAt W lo m ls) => ppk_no W lo m lc ls h hp (by omega))
    have HPR := Hid.mk (fun W (h : LAt W lo m ls) => rppk_no W lo m lc ls h hp (by omega))
    obtain ⟨SX, hSX⟩ : ∃ SX, SX = strOfNums [] := ⟨_, rfl⟩
    have HSX := Hid.mk hSX
    clear hSX hp
    go_enter Try.func5, Try.ntmps5
    go_wp2_with (first
      | (go_at_call 8; refine (alive_any _).mono ?_; rintro e w1 ⟨rfl, hB⟩; have HB := Hid.mk hB; clear hB)
      | (go_at_call 14; refine (ptr_no _ ao n c hne).mono ?_; rintro e w3 ⟨rfl, hw⟩; subst w3)
      | (go_at_call 15; refine (rptr_no _ ao n c hne).mono ?_; rintro e w3 ⟨rfl, hw⟩; subst w3))
    go_loop [8] (fun i => i = .int .i64 0) (fun _ => 0)
    case atStart => rfl
    case round =>
      subst hrel
      go_wp2_with (first
        | (go_at_call 16; refine (HPK.out _ (HLA.out _ HB.out)).mono ?_; rintro e w7 ⟨rfl, hw⟩; subst w7)
        | (go_at_call 17; refine (HPR.out _ (HLA.out _ HB.out)).mono ?_; rintro e W7 ⟨rfl, hB⟩; replace HB := Hid.mk (HB.out.trans (hB.mono HB.out.size)); clear hB)
        | (go_at_call 11; refine (num_any _ _).mono ?_; rintro e w3 ⟨rfl, hw⟩; subst w3)
        | (refine wpL_conv (.tmp 78) rfl rfl none 0 0 [] rfl (BAt.nil _) SX HSX.out ?_)
        | (refine wpL_conv (.tmp 80) rfl rfl none 0 0 [] rfl (BAt.nil _) SX HSX.out ?_)
        | (refine wpL_strneq (.tmp 79) (.tmp 81) 9 rfl rfl SX SX true (by simp) rfl rfl ?_))
      go_ret
      exact ⟨rfl, HB.out⟩
  | true =>
    have HPK := Hid.mk (fun W (h : LAt W lo m ls) => ppk_yes W lo m lc ls h hp)
    have HPR := Hid.mk (fun W (h : LAt W lo m ls) => rppk_yes W lo m lc ls h hp)
    have HPL : Hid ((ppL ls).length = 1024) := Hid.mk (ppL_length ls (by unfold ppB at hp; simp at hp; exact hp.1))
    obtain ⟨SX, hSX⟩ : ∃ SX, SX = strOfNums (ppL ls) := ⟨_, rfl⟩
    have HSX := Hid.mk hSX
    clear hSX hp
    go_enter Try.func5, Try.ntmps5
    go_wp2_with (first
      | (go_at_call 8; refine (alive_any _).mono ?_; rintro e w1 ⟨rfl, hB⟩; have HB := Hid.mk hB; clear hB)
      | (go_at_call 14; refine (ptr_no _ ao n c hne).mono ?_; rintro e w3 ⟨rfl, hw⟩; subst w3)
      | (go_at_call 15; refine (rptr_no _ ao n c hne).mono ?_; rintro e w3 ⟨rfl, hw⟩; subst w3))
    go_loop [8] (fun i => i = .int .i64 0) (fun _ => 0)
    case atStart => rfl
    case round =>
      subst hrel
      go_wp2_with (first
        | (go_at_call 16; have hK := HPK.out w1 (HLA.out _ HB.out); obtain ⟨g, hg⟩ : ∃ g, g = (w1).heap.size := ⟨_, rfl⟩; rw [← hg] at hK; refine hK.mono ?_; clear hK HPK; rintro e W7 ⟨rfl, hrow, hB⟩; rw [hg] at hB; replace HB := Hid.mk (HB.out.trans (hB.mono HB.out.size)); have HRW := Hid.mk hrow; clear hB hrow hg)
        | (go_at_call 17; refine (HPR.out _ (HLA.out _ HB.out)).mono ?_; rintro e W8 ⟨bo, bc, rfl, hba, hB⟩; replace HRW := Hid.mk (HRW.out.below hB HRW.out.lt); replace HB := Hid.mk (HB.out.trans (hB.mono HB.out.size)); have HBO := Hid.mk hba; clear hB hba)
        | (go_at_call 11; refine (num_any _ _).mono ?_; rintro e w3 ⟨rfl, hw⟩; subst w3)
        | (refine wpL_conv (.tmp 78) rfl rfl (some ⟨g, 0, none⟩) 1024 1024 (ppL ls) rfl (HRW.out.full HPL.out) SX HSX.out ?_)
        | (refine wpL_conv (.tmp 80) rfl rfl bo 1024 bc (ppL ls) rfl HBO.out SX HSX.out ?_)
        | (refine wpL_strneq (.tmp 79) (.tmp 81) 9 rfl rfl SX SX true (by simp) rfl rfl ?_))
      go_ret
      exact ⟨rfl, HB.out⟩

set_option maxRecDepth 100000 in
set_option maxHeartbeats 8000000 in
theorem ptrs_yes (w : World) (a : Addr) (c : Nat) (xs : List Int) (lo : Option Addr) (m lc : Nat) (ls : List Int) (h : BAt w (some a) 1024 xs) (hx : ∀ x ∈ xs, 0 ≤ x ∧ x ≤ 255) (hl : LAt w lo m ls) (hm : m ≤ 600) (hc : 1024 ≤ c) (hc2 : c ≤ 9223372036854775807) :
    Calls Try.prog 5 #[.slice (some a) 1024 c, .slice lo m lc] w fun e w' => e = .returned (.bool true) ∧ Below w.heap.size w w' := by
  have hm5 : decide ((600 : Int) < (m : Int)) = false := decide_eq_false (by omega)
  have HLA : Hid (∀ W, Below w.heap.size w W → LAt W lo m ls) := Hid.mk (fun W hB => hl.only (Only.of_new (fun _ => False) hB) (fun _ _ _ h => h))
  have HBA : Hid (∀ W, Below w.heap.size w W → BAt W (some a) 1024 xs) := Hid.mk (fun W hB => h.below hB)
  have HX := Hid.mk hx
  have HAL : Hid ((allL 4 xs).length = 256) := Hid.mk (by rw [allL_length, h.1])
  obtain ⟨pa1, pa2⟩ := pp_all xs h.1 hx
  have HP2 : Hid (∀ W g, QAt W g (allL 4 xs) → Calls Try.prog 16 #[.slice (some ⟨g, 0, none⟩) 256 256] W fun e w' => e = .returned (.tuple #[.slice (some ⟨W.heap.size, 0, none⟩) 1024 1024, .int .i64 0]) ∧ RAt w' W.heap.size xs ∧ Below W.heap.size W w') := Hid.mk (fun W g hq => by
    have h := ppk_yes W (some ⟨g, 0, none⟩) 256 256 (allL 4 xs) (hq.lat HAL.out) pa1
    rwa [pa2] at h)
  obtain ⟨SB, hSB⟩ : ∃ SB, SB = strOfNums xs := ⟨_, rfl⟩
  have HSB := Hid.mk hSB
  have HLX := Hid.mk h.1
  clear h hx hl pa1 pa2 hSB
  cases hp : ppB ls with
  | false =>
    have HPK := Hid.mk (fun W (h : LAt W lo m ls) => ppk_no W lo m lc ls h hp (by omega))
    have HPR := Hid.mk (fun W (h : LAt W lo m ls) => rppk_no W lo m lc ls h hp (by omega))
    obtain ⟨SX, hSX⟩ : ∃ SX, SX = strOfNums [] := ⟨_, rfl⟩
    have HSX := Hid.mk hSX
    clear hSX hp
    go_enter Try.func5, Try.ntmps5
    go_wp2_with (first
      | (go_at_call 8; refine (alive_any _).mono ?_; rintro e w1 ⟨rfl, hB⟩; have HB := Hid.mk hB; have HC14 := Hid.mk (ptr_yes w1 a c xs (HBA.out w1 hB) HX.out hc hc2); obtain ⟨gp, hgp⟩ : ∃ gp, gp = w1.heap.size := ⟨_, rfl⟩; rw [← hgp] at HC14; have HGP := Hid.mk hgp; clear hB hgp)
      | (go_at_call 14; refine HC14.out.mono ?_; rintro e W2 ⟨rfl, hq, hB⟩; rw [HGP.out] at hB; replace HB := Hid.mk (HB.out.trans (hB.mono HB.out.size)); have HQP := Hid.mk hq; clear hB hq HC14 HGP)
      | (go_at_call 15; refine (rptr_yes _ a c xs (HBA.out _ HB.out) HX.out).mono ?_; rintro e W3 ⟨v3, rfl, ho, hB⟩; obtain ⟨gq, cq, e3, hlq, -⟩ := owns_LAt ho (by omega); subst e3; replace HB := Hid.mk (HB.out.trans (hB.mono HB.out.size)); replace HQP := Hid.mk (HQP.out.below hB HQP.out.lt); have HLQ := Hid.mk hlq; clear hB ho hlq))
    go_loopw [8] (fun i wr => ∃ k : Nat, k ≤ 256 ∧ i = .int .i64 k ∧ ∃ q, wr = W3.drewN q) (fun i _ => 256 - (intOf i).toNat)
    case atStart => exact ⟨0, by omega, rfl, 0, rfl⟩
    case round =>
      obtain ⟨k, hk, rfl, q, rfl⟩ := hrel
      by_cases hlt : k < 256
      · have y1 : W3.cell? ⟨gp, k, none⟩ = some (.int .i64 ((allL 4 xs).getD k 0)) := by
          rw [blk_cell HQP.out]
          simpa using Iy_get (allL 4 xs) k (by rw [HAL.out]; exact hlt)
        obtain ⟨a', e', y2⟩ := HLQ.out.at k hlt
        cases e'
        rw [add_at, Nat.zero_add] at y2
        generalize (allL 4 xs).getD k 0 = x at *
        have z1 : ∀ q, (W3.drewN q).cell? ⟨gp, k, none⟩ = some (.int .i64 x) := fun q => y1
        have z2 : ∀ q, (W3.drewN q).cell? ⟨gq, k, none⟩ = some (.int .i64 x) := fun q => y2
        have k6 : (k : Int) < 256 := by omega
        clear y1 y2
        go_wp2
        go_quiet (fail)
        go_wp2
        go_roundw
        case rel => exact ⟨k + 1, by omega, by go_num, _, rfl⟩
        case measure => simp [intOf]; omega
      · have hge : (256 : Int) ≤ k := by omega
        obtain rfl : k = 256 := by omega
        replace HB := Hid.mk (HB.out.drewN q)
        replace HQP : Hid (QAt (W3.drewN q) gp (allL 4 xs)) := HQP
        generalize W3.drewN q = W4 at *
        go_wp2_with (first
          | (go_at_call 16; have hK := HPK.out _ (HLA.out _ HB.out); refine hK.mono ?_; clear hK HPK; rintro e w7 ⟨rfl, hw⟩; subst w7)
          | (go_at_call 17; refine (HPR.out _ (HLA.out _ HB.out)).mono ?_; rintro e W7 ⟨rfl, hB⟩; replace HB := Hid.mk (HB.out.trans (hB.mono HB.out.size)); replace HQP := Hid.mk (HQP.out.below hB HQP.out.lt); clear hB)
          | (go_at_call 11; refine (num_any _ _).mono ?_; rintro e w3 ⟨rfl, hw⟩; subst w3)
          | (refine wpL_conv (.tmp 78) rfl rfl none 0 0 [] rfl (BAt.nil _) SX HSX.out ?_)
          | (refine wpL_conv (.tmp 80) rfl rfl none 0 0 [] rfl (BAt.nil _) SX HSX.out ?_)
          | (refine wpL_strneq (.tmp 79) (.tmp 81) 9 rfl rfl SX SX true (by simp) rfl rfl ?_)
          | (go_at_call 16; have hK := HP2.out W7 gp HQP.out; obtain ⟨g9, hg9⟩ : ∃ g9, g9 = (W7).heap.size := ⟨_, rfl⟩; rw [← hg9] at hK; refine hK.mono ?_; clear hK; rintro e W9 ⟨rfl, hrow, hB⟩; rw [hg9] at hB; replace HB := Hid.mk (HB.out.trans (hB.mono HB.out.size)); replace HQP := Hid.mk (HQP.out.below hB HQP.out.lt); have HRW9 := Hid.mk hrow; have HBX := Hid.mk (HBA.out _ HB.out); clear hB hrow hg9)
          | (refine wpL_conv (.tmp 96) rfl rfl (some ⟨g9, 0, none⟩) 1024 1024 xs rfl (HRW9.out.full HLX.out) SB HSB.out ?_)
          | (refine wpL_conv (.tmp 98) rfl rfl (some a) 1024 c xs rfl HBX.out SB HSB.out ?_)
          | (refine wpL_streql (.tmp 97) (.tmp 99) 9 rfl rfl SB SB true (by simp) rfl rfl ?_))
        go_ret
        exact ⟨rfl, HB.out⟩
  | true =>
    have HPK := Hid.mk (fun W (h : LAt W lo m ls) => ppk_yes W lo m lc ls h hp)
    have HPR := Hid.mk (fun W (h : LAt W lo m ls) => rppk_yes W lo m lc ls h hp)
    have HPL : Hid ((ppL ls).length = 1024) := Hid.mk (ppL_length ls (by unfold ppB at hp; simp at hp; exact hp.1))
    obtain ⟨SX, hSX⟩ : ∃ SX, SX = strOfNums (ppL ls) := ⟨_, rfl⟩
    have HSX := Hid.mk hSX
    clear hSX hp
    go_enter Try.func5, Try.ntmps5
    go_wp2_with (first
      | (go_at_call 8; refine (alive_any _).mono ?_; rintro e w1 ⟨rfl, hB⟩; have HB := Hid.mk hB; have HC14 := Hid.mk (ptr_yes w1 a c xs (HBA.out w1 hB) HX.out hc hc2); obtain ⟨gp, hgp⟩ : ∃ gp, gp = w1.heap.size := ⟨_, rfl⟩; rw [← hgp] at HC14; have HGP := Hid.mk hgp; clear hB hgp)
      | (go_at_call 14; refine HC14.out.mono ?_; rintro e W2 ⟨rfl, hq, hB⟩; rw [HGP.out] at hB; replace HB := Hid.mk (HB.out.trans (hB.mono HB.out.size)); have HQP := Hid.mk hq; clear hB hq HC14 HGP)
      | (go_at_call 15; refine (rptr_yes _ a c xs (HBA.out _ HB.out) HX.out).mono ?_; rintro e W3 ⟨v3, rfl, ho, hB⟩; obtain ⟨gq, cq, e3, hlq, -⟩ := owns_LAt ho (by omega); subst e3; replace HB := Hid.mk (HB.out.trans (hB.mono HB.out.size)); replace HQP := Hid.mk (HQP.out.below hB HQP.out.lt); have HLQ := Hid.mk hlq; clear hB ho hlq))
    go_loopw [8] (fun i wr => ∃ k : Nat, k ≤ 256 ∧ i = .int .i64 k ∧ ∃ q, wr = W3.drewN q) (fun i _ => 256 - (intOf i).toNat)
    case atStart => exact ⟨0, by omega, rfl, 0, rfl⟩
    case round =>
      obtain ⟨k, hk, rfl, q, rfl⟩ := hrel
      by_cases hlt : k < 256
      · have y1 : W3.cell? ⟨gp, k, none⟩ = some (.int .i64 ((allL 4 xs).getD k 0)) := by
          rw [blk_cell HQP.out]
          simpa using Iy_get (allL 4 xs) k (by rw [HAL.out]; exact hlt)
        obtain ⟨a', e', y2⟩ := HLQ.out.at k hlt
        cases e'
        rw [add_at, Nat.zero_add] at y2
        generalize (allL 4 xs).getD k 0 = x at *
        have z1 : ∀ q, (W3.drewN q).cell? ⟨gp, k, none⟩ = some (.int .i64 x) := fun q => y1
        have z2 : ∀ q, (W3.drewN q).cell? ⟨gq, k, none⟩ = some (.int .i64 x) := fun q => y2
        have k6 : (k : Int) < 256 := by omega
        clear y1 y2
        go_wp2
        go_quiet (fail)
        go_wp2
        go_roundw
        case rel => exact ⟨k + 1, by omega, by go_num, _, rfl⟩
        case measure => simp [intOf]; omega
      · have hge : (256 : Int) ≤ k := by omega
        obtain rfl : k = 256 := by omega
        replace HB := Hid.mk (HB.out.drewN q)
        replace HQP : Hid (QAt (W3.drewN q) gp (allL 4 xs)) := HQP
        generalize W3.drewN q = W4 at *
        go_wp2_with (first
          | (go_at_call 16; have hK := HPK.out W4 (HLA.out _ HB.out); obtain ⟨g, hg⟩ : ∃ g, g = (W4).heap.size := ⟨_, rfl⟩; rw [← hg] at hK; refine hK.mono ?_; clear hK HPK; rintro e W7 ⟨rfl, hrow, hB⟩; rw [hg] at hB; replace HB := Hid.mk (HB.out.trans (hB.mono HB.out.size)); replace HQP := Hid.mk (HQP.out.below hB HQP.out.lt); have HRW := Hid.mk hrow; clear hB hrow hg)
          | (go_at_call 17; refine (HPR.out _ (HLA.out _ HB.out)).mono ?_; rintro e W8 ⟨bo, bc, rfl, hba, hB⟩; replace HRW := Hid.mk (HRW.out.below hB HRW.out.lt); replace HB := Hid.mk (HB.out.trans (hB.mono HB.out.size)); replace HQP := Hid.mk (HQP.out.below hB HQP.out.lt); have HBO := Hid.mk hba; clear hB hba)
          | (go_at_call 11; refine (num_any _ _).mono ?_; rintro e w3 ⟨rfl, hw⟩; subst w3)
          | (refine wpL_conv (.tmp 78) rfl rfl (some ⟨g, 0, none⟩) 1024 1024 (ppL ls) rfl (HRW.out.full HPL.out) SX HSX.out ?_)
          | (refine wpL_conv (.tmp 80) rfl rfl bo 1024 bc (ppL ls) rfl HBO.out SX HSX.out ?_)
          | (refine wpL_strneq (.tmp 79) (.tmp 81) 9 rfl rfl SX SX true (by simp) rfl rfl ?_)
          | (go_at_call 16; have hK := HP2.out W8 gp HQP.out; obtain ⟨g9, hg9⟩ : ∃ g9, g9 = (W8).heap.size := ⟨_, rfl⟩; rw [← hg9] at hK; refine hK.mono ?_; clear hK; rintro e W9 ⟨rfl, hrow, hB⟩; rw [hg9] at hB; replace HB := Hid.mk (HB.out.trans (hB.mono HB.out.size)); replace HQP := Hid.mk (HQP.out.below hB HQP.out.lt); have HRW9 := Hid.mk hrow; have HBX := Hid.mk (HBA.out _ HB.out); clear hB hrow hg9)
          | (refine wpL_conv (.tmp 96) rfl rfl (some ⟨g9, 0, none⟩) 1024 1024 xs rfl (HRW9.out.full HLX.out) SB HSB.out ?_)
          | (refine wpL_conv (.tmp 98) rfl rfl (some a) 1024 c xs rfl HBX.out SB HSB.out ?_)
          | (refine wpL_streql (.tmp 97) (.tmp 99) 9 rfl rfl SB SB true (by simp) rfl rfl ?_))
        go_ret
        exact ⟨rfl, HB.out⟩

theorem ptrs_any (w : World) (ao : Option Addr) (n c : Nat) (xs : List Int) (lo : Option Addr) (m lc : Nat) (ls : List Int) (h : BAt w ao n xs) (hx : ∀ x ∈ xs, 0 ≤ x ∧ x ≤ 255) (hl : LAt w lo m ls) (hc : n ≤ c) (hc2 : c ≤ 9223372036854775807) (hm9 : m ≤ 9223372036854775807) :
    Calls Try.prog 5 #[.slice ao n c, .slice lo m lc] w fun e w' => e = .returned (.bool true) ∧ Below w.heap.size w w' := by
  by_cases hbig : 3000 < n ∨ 600 < m
  · exact ptrs_long w ao n c lo m lc (by omega) hm9 hbig
  · by_cases hn : n = 1024
    · subst hn
      obtain ⟨a, rfl, -⟩ := h.at 0 (by omega)
      exact ptrs_yes w a c xs lo m lc ls h hx hl (by omega) hc hc2
    · exact ptrs_no w ao n c lo m lc ls hl (by omega) (by omega) hn
end Go.Proofs.Ytnajpnnmiocckaa
