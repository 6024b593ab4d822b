/-
  Names: the bytes of a string; IndexByte; Name of the program and of the reference.
-/
import Derived.Test.YtejnmpnioeamhaaGreatLayB
import Derived.Test.YtejnmpnioeamhaaGreatLayDin
import Derived.Lib.Bytealg
import Derived.Laws.StructEq
import Derived.Deep.Cut
import Derived.Deep.CutRange
import Derived.Deep.CutBlock
import Derived.Lib.BufferWrite
import Derived.Lib.AppendStr
namespace Go.Proofs.YtejnmpnioeamhaaGreat
open Go Go.Proofs Go.RowKit Go.Shelf
namespace Ent
/-- The bytes of a string, as numbers. -/
def nm (s : ByteArray) : List Int := s.data.toList.map (fun u => (u.toNat : Int))
theorem nm_length (s : ByteArray) : (nm s).length = s.size := by simp [nm]
theorem nm_bound (s : ByteArray) : ∀ x ∈ nm s, 0 ≤ x ∧ x ≤ 255 := by
  intro x hx
  obtain ⟨u, _, rfl⟩ := List.mem_map.1 hx
  have := u.toNat_lt
  omega
theorem str_nm (s : ByteArray) : strOfNums (nm s) = s := by
  obtain ⟨⟨l⟩⟩ := s
  simp only [strOfNums, nm, List.map_map]
  congr 2
  conv => rhs; rw [← List.map_id l]
  apply List.map_congr_left
  intro u _
  simp
theorem nm_str (xs : List Int) (h : ∀ x ∈ xs, 0 ≤ x ∧ x ≤ 255) : nm (strOfNums xs) = xs := by
  refine str_inj _ _ (nm_bound _) h ?_
  rw [str_nm]
theorem nm_inj {s t : ByteArray} (h : nm s = nm t) : s = t := by rw [← str_nm s, ← str_nm t, h]
theorem nm_at (s : ByteArray) (k : Nat) (h : k < s.size) : ((s[k]'h).toNat : Int) = (nm s).getD k 0 := by
  have h2 : k < s.data.toList.length := by simpa using h
  simp [nm, List.getD]
  rw [Array.getElem?_eq_getElem (by simpa using h)]
  rfl
set_option maxRecDepth 100000 in
theorem str_eq (s t : ByteArray) : (s.toList == t.toList) = decide (s = t) := by
  rw [ByteArray.toList_eq, ByteArray.toList_eq]
  by_cases h : s = t
  · simp [h]
  · rw [decide_eq_false h, beq_eq_false_iff_ne]
    intro e
    obtain ⟨⟨x⟩⟩ := s
    obtain ⟨⟨y⟩⟩ := t
    simp at e
    subst e
    exact h rfl
theorem nm_nil (s : ByteArray) : (s.toList == (ByteArray.mk #[]).toList) = decide (nm s = []) := by
  rw [str_eq]
  congr 1
  rw [eq_iff_iff]
  constructor
  · rintro rfl; rfl
  · intro h
    exact nm_inj (by rw [h]; rfl)
theorem nm_empty (s : ByteArray) : s.toList.isEmpty = decide (s.size = 0) := by
  rw [ByteArray.toList_eq]
  obtain ⟨⟨l⟩⟩ := s
  cases l <;> simp [ByteArray.size]
set_option maxRecDepth 100000 in
theorem idx_neg (l : List UInt8) (c : UInt8) : decide (Lib.indexByte l c < 0) = decide (c ∉ l) := by
  induction l with
  | nil => simp [Lib.indexByte]
  | cons b l ih =>
    have hg := Lib.indexByte_ge l c
    unfold Lib.indexByte
    by_cases hb : b = c
    · subst hb; simp
    · have hb' : (b == c) = false := by simpa using hb
      rw [hb']
      simp only [Bool.false_eq_true, if_false]
      have hne : ¬ c = b := fun h => hb h.symm
      by_cases h1 : Lib.indexByte l c = -1
      · rw [h1] at ih
        simp at ih
        simp [h1, hne, ih]
      · have h2 : ¬ Lib.indexByte l c < 0 := by omega
        rw [decide_eq_false h2] at ih
        have hm : c ∈ l := by simpa using ih.symm
        have h3 : ¬ (Lib.indexByte l c + 1 < 0) := by omega
        simp [h1, hm, h3]
set_option maxRecDepth 100000 in
theorem idx_nm (s : ByteArray) (c : Nat) (hc : c < 256) : decide (Lib.indexByte s.data.toList (UInt8.ofNat c) < 0) = decide ((c : Int) ∉ nm s) := by
  rw [idx_neg]
  congr 1
  rw [eq_iff_iff]
  refine not_congr ?_
  unfold nm
  constructor
  · intro h
    refine List.mem_map.2 ⟨_, h, ?_⟩
    simp
    omega
  · intro h
    obtain ⟨u, hu, e⟩ := List.mem_map.1 h
    have : u = UInt8.ofNat c := by
      apply UInt8.toNat_inj.1
      simp
      omega
    rwa [← this]
theorem call34 (args : Array Value) (w : World) : (callFunc 108 args).run Tryz.prog w = ((Extern.BytealgIndexByte.indexByte args).run Tryz.prog w).andThen fun v w' => .ok (.value v) w' :=
  run_callFunc_extern Tryz.func108 (by kernel_rfl) (by kernel_rfl) (by kernel_rfl) (by kernel_rfl) args w
set_option maxRecDepth 100000 in
theorem idx33_any (w : World) (s : ByteArray) (c : Int) : Calls Tryz.prog 107 #[.string s, .int .u8 c] w fun e w' => e = .returned (.int .i64 (Lib.indexByte s.data.toList c.toNat.toUInt8)) ∧ w' = w := by
  have h34 : (callFunc 108 #[.string s, .int .u8 c]).run Tryz.prog w = .ok (.value (.int .i64 (Lib.indexByte s.data.toList c.toNat.toUInt8))) w := by
    rw [call34, Lib.run_indexByteString]; rfl
  generalize Lib.indexByte s.data.toList c.toNat.toUInt8 = r at *
  go_enter Tryz.func107, Tryz.ntmps107
  go_wp2
  go_ret
  exact ⟨rfl, rfl⟩
set_option maxRecDepth 100000 in
theorem idx_any (w : World) (s : ByteArray) (c : Int) : Calls Tryz.prog 106 #[.string s, .int .u8 c] w fun e w' => e = .returned (.int .i64 (Lib.indexByte s.data.toList c.toNat.toUInt8)) ∧ w' = w := by
  go_enter Tryz.func106, Tryz.ntmps106
  go_wp2_with (go_at_call 107; refine (idx33_any _ _ _).mono ?_; rintro e w' ⟨rfl, hw⟩; subst w')
  go_ret
  exact ⟨rfl, rfl⟩
/-- May an entry have that name? -/
def nameB (l : List Int) : Bool := decide (1 ≤ l.length ∧ l.length ≤ 27 ∧ (0 : Int) ∉ l ∧ (47 : Int) ∉ l)
theorem nameB_yes {l : List Int} : nameB l = true ↔ 1 ≤ l.length ∧ l.length ≤ 27 ∧ (0 : Int) ∉ l ∧ (47 : Int) ∉ l := by simp [nameB]
set_option maxRecDepth 100000 in
set_option maxHeartbeats 1000000 in
theorem name_any (w : World) (s : ByteArray) (hs : s.size ≤ 1000) : Calls Tryz.prog 100 #[.string s] w fun e w' => e = .returned (.bool (nameB (nm s))) ∧ w' = w := by
  have HL := Hid.mk (nm_length s)
  have h0 := idx_nm s 0 (by omega)
  have h47 := idx_nm s 47 (by omega)
  have HN : Hid (nameB (nm s) = (decide (1 ≤ s.size ∧ s.size ≤ 27) && (decide ((0 : Int) ∉ nm s) && decide ((47 : Int) ∉ nm s)))) := Hid.mk (by
    unfold nameB
    rw [HL.out]
    simp only [← Bool.decide_and]
    congr 1
    simp only [and_assoc])
  have e0 : ((0 : Int).toNat.toUInt8) = UInt8.ofNat 0 := by decide
  have e47 : ((47 : Int).toNat.toUInt8) = UInt8.ofNat 47 := by decide
  have H0 := Hid.mk e0
  have H47 := Hid.mk e47
  clear e0 e47
  generalize hr0 : Lib.indexByte s.data.toList (UInt8.ofNat 0) = r0 at h0
  generalize hr1 : Lib.indexByte s.data.toList (UInt8.ofNat 47) = r1 at h47
  have HR0 := Hid.mk hr0
  have HR1 := Hid.mk hr1
  clear hr0 hr1
  simp only [Int.natCast_zero] at h0
  rw [← show ((47 : Nat) : Int) = 47 from rfl] at HN
  rw [← h0, ← h47] at HN
  clear h0 h47
  by_cases hA : s.size = 0
  · have HD := Hid.mk (show nameB (nm s) = false by rw [HN.out, decide_eq_false (by omega)]; rfl)
    clear HN
    go_enter Tryz.func100, Tryz.ntmps100
    go_wp2
    go_ret
    exact ⟨by rw [HD.out]; rfl, rfl⟩
  · have hA' : ((s.size : Int) == 0) = false := by rw [beq_eq_false_iff_ne]; omega
    by_cases hB : s.size ≤ 27
    · have HD := Hid.mk (show nameB (nm s) = (decide (r0 < 0) && decide (r1 < 0)) by rw [HN.out, decide_eq_true (by omega)]; rfl)
      clear HN
      by_cases hC : r0 < 0
      · by_cases hE : r1 < 0
        · go_enter Tryz.func100, Tryz.ntmps100
          go_wp2_with (go_at_call 106; refine (idx_any _ _ _).mono ?_; rintro e w' ⟨rfl, hw⟩; subst w'; first | rw [H0.out, HR0.out] | rw [H47.out, HR1.out])
          go_ret
          exact ⟨by rw [HD.out]; simp [hC, hE], rfl⟩
        · go_enter Tryz.func100, Tryz.ntmps100
          go_wp2_with (go_at_call 106; refine (idx_any _ _ _).mono ?_; rintro e w' ⟨rfl, hw⟩; subst w'; first | rw [H0.out, HR0.out] | rw [H47.out, HR1.out])
          go_ret
          exact ⟨by rw [HD.out]; simp [hC], rfl⟩
      · have HD2 := Hid.mk (show nameB (nm s) = false by rw [HD.out]; simp [hC])
        go_enter Tryz.func100, Tryz.ntmps100
        go_wp2_with (go_at_call 106; refine (idx_any _ _ _).mono ?_; rintro e w' ⟨rfl, hw⟩; subst w'; first | rw [H0.out, HR0.out] | rw [H47.out, HR1.out])
        go_ret
        exact ⟨by rw [HD2.out]; rfl, rfl⟩
    · have HD := Hid.mk (show nameB (nm s) = false by rw [HN.out, decide_eq_false (by omega)]; rfl)
      clear HN
      go_enter Tryz.func100, Tryz.ntmps100
      go_wp2
      go_ret
      exact ⟨by rw [HD.out]; rfl, rfl⟩
set_option maxRecDepth 100000 in
set_option maxHeartbeats 1000000 in
theorem rname_any (w : World) (s : ByteArray) (hs : s.size ≤ 1000) : Calls Tryz.prog 99 #[.string s] w fun e w' => e = .returned (.bool (nameB (nm s))) ∧ w' = w := by
  have HL := Hid.mk (nm_length s)
  have HAT := Hid.mk (nm_at s)
  go_enter Tryz.func99, Tryz.ntmps99
  go_wp2
  go_loop [3] (fun i => ∃ k : Nat, k ≤ s.size ∧ i = .int .i64 k ∧ ∀ j, j < k → (nm s).getD j 0 ≠ 0 ∧ (nm s).getD j 0 ≠ 47) (fun i => s.size - (intOf i).toNat)
  case atStart => exact ⟨0, by omega, rfl, fun j hj => by omega⟩
  case round =>
    obtain ⟨k, hk, rfl, hall⟩ := hrel
    have HA := Hid.mk hall
    clear hall
    by_cases hlt : k < s.size
    · have hx := HAT.out k hlt
      have HM : Hid ((nm s).getD k 0 ∈ nm s) := Hid.mk (getD_mem (by rw [HL.out]; exact hlt))
      by_cases h0 : (nm s).getD k 0 = 0
      · have HD : Hid (nameB (nm s) = false) := Hid.mk (by
          unfold nameB
          rw [decide_eq_false]
          rintro ⟨_, _, h, _⟩
          have := HM.out
          rw [h0] at this
          exact h this)
        rw [h0] at hx
        clear h0
        have hz : (s[k]'hlt).toNat = 0 := by omega
        have hz2 : (((s[k]'hlt).toNat : Int) == 0) = true := by simp [hz]
        clear hx
        go_wp2
        go_ret
        exact ⟨by rw [HD.out]; rfl, rfl⟩
      · by_cases h1 : (nm s).getD k 0 = 47
        · have HD : Hid (nameB (nm s) = false) := Hid.mk (by
            unfold nameB
            rw [decide_eq_false]
            rintro ⟨_, _, _, h⟩
            have := HM.out
            rw [h1] at this
            exact h this)
          rw [h1] at hx
          clear h0 h1
          have hz0 : ¬ (s[k]'hlt).toNat = 0 := by omega
          have hz1 : (((s[k]'hlt).toNat : Int) == 0) = false := by simp; omega
          have hz2 : (s[k]'hlt).toNat = 47 := by omega
          have hz3 : (((s[k]'hlt).toNat : Int) == 47) = true := by simp; omega
          clear hx
          go_wp2
          go_ret
          exact ⟨by rw [HD.out]; rfl, rfl⟩
        · have HA2 : Hid (∀ j, j < k + 1 → (nm s).getD j 0 ≠ 0 ∧ (nm s).getD j 0 ≠ 47) := Hid.mk (fun j hj => by
            rcases Nat.lt_or_ge j k with h | h
            · exact HA.out j h
            · obtain rfl : j = k := by omega
              exact ⟨h0, h1⟩)
          rw [← hx] at h0 h1
          have hz0 : ¬ (s[k]'hlt).toNat = 0 := by omega
          have hz1 : (((s[k]'hlt).toNat : Int) == 0) = false := by simp; omega
          have hz2 : ¬ (s[k]'hlt).toNat = 47 := by omega
          have hz3 : (((s[k]'hlt).toNat : Int) == 47) = false := by simp; omega
          clear hx h0 h1
          go_wp2
          go_round
          case rel => exact ⟨k + 1, by omega, by go_num, HA2.out⟩
          case measure => simp [intOf]; omega
    · have hge : (s.size : Int) ≤ k := by omega
      obtain rfl : k = s.size := by omega
      have HD : Hid (nameB (nm s) = decide (1 ≤ s.size ∧ s.size ≤ 27)) := Hid.mk (by
        unfold nameB
        rw [HL.out]
        congr 1
        rw [eq_iff_iff]
        have hno : ∀ c : Int, (c = 0 ∨ c = 47) → c ∉ nm s := by
          intro c hc hm
          obtain ⟨i, hi, e⟩ := List.getElem_of_mem hm
          have := HA.out i (by rw [← HL.out]; exact hi)
          rw [show (nm s).getD i 0 = (nm s)[i] by simp [List.getD, List.getElem?_eq_getElem hi], e] at this
          omega
        exact ⟨fun h => ⟨h.1, h.2.1⟩, fun h => ⟨h.1, h.2, hno 0 (.inl rfl), hno 47 (.inr rfl)⟩⟩)
      have hnl := nm_empty s
      by_cases hA : s.size = 0
      · rw [decide_eq_true hA] at hnl
        have HD2 := Hid.mk (show nameB (nm s) = false by rw [HD.out]; exact decide_eq_false (by omega))
        go_wp2
        go_ret
        exact ⟨by rw [HD2.out]; rfl, rfl⟩
      · rw [decide_eq_false hA] at hnl
        have HD2 := Hid.mk (show nameB (nm s) = decide ((s.size : Int) ≤ 27) by rw [HD.out]; congr 1; rw [eq_iff_iff]; omega)
        go_wp2
        go_ret
        exact ⟨by rw [HD2.out]; rfl, rfl⟩
end Ent
end Go.Proofs.YtejnmpnioeamhaaGreat
namespace Go.Proofs.YtejnmpnioeamhaaGreat
open Go Go.Proofs Go.RowKit Go.Shelf
namespace Ent
/-- The cells of an entry. -/
def entC (i : Int) (s : ByteArray) : List Value := [.int .i64 i, .string s]
/-- An entry as a value. -/
def entV (i : Int) (s : ByteArray) : Value := .agg (entC i s).toArray
def noS : ByteArray := ⟨#[]⟩
/-- Are two entries equal? -/
def eqE (i : Int) (s : ByteArray) (j : Int) (t : ByteArray) : Bool := decide (i = j ∧ s = t)
theorem eqE_self (i : Int) (s : ByteArray) : eqE i s i s = true := by simp [eqE]
theorem entC_one (i : Int) (s : ByteArray) : ∀ u ∈ entC i s, u.oneCell' = true := by
  intro u hu
  simp [entC] at hu
  rcases hu with rfl | rfl <;> rfl
set_option maxRecDepth 100000 in
theorem fields26 : Tryz.prog.fieldsOf 84 = #[{ name := "Ino", type := 3, offset := 0, embedded := false, tag := "", pkgPath := "", byteOffset := 0 }, { name := "Name", type := 9, offset := 1, embedded := false, tag := "", pkgPath := "", byteOffset := 8 }] := by
  simp [Program.fieldsOf, Tryz.underlying84]
set_option maxRecDepth 100000 in
theorem equal_ent (i : Int) (s : ByteArray) (j : Int) (t : ByteArray) (w : World) : (Op.equalIn 10000 84 (entV i s) (entV j t)).run Tryz.prog w = .ok (eqE i s j t) w := by
  unfold entV entC
  rw [run_equalIn_agg w 9999 84 _ _ (by rw [fields26]; exact Tryz.underlying84) (by kernel_rfl), fields26]
  simp [Op.eqFields, part, isAgg, run_underlying Tryz.underlying3, run_underlying Tryz.underlying9, run_equalIn_int _ 9998 3 .i64 .i64 _ _ Tryz.underlying3, run_equalIn_string _ 9998 9 _ _ Tryz.underlying9, str_eq]
  by_cases h0 : i = j <;> by_cases h1 : s = t <;> simp [eqE, h0, h1]
theorem eql_ent (i : Int) (s : ByteArray) (j : Int) (t : ByteArray) (w : World) : (binOp .eql 84 (entV i s) (entV j t)).run Tryz.prog w = .ok (.bool (eqE i s j t)) w := by
  have h := equal_ent i s j t w
  unfold entV at h ⊢
  rw [run_eql_struct, h]
  rfl
theorem neq_ent (i : Int) (s : ByteArray) (j : Int) (t : ByteArray) (w : World) : (binOp .neq 84 (entV i s) (entV j t)).run Tryz.prog w = .ok (.bool (!eqE i s j t)) w := by
  have h := equal_ent i s j t w
  unfold entV at h ⊢
  rw [run_neq_struct, h]
  rfl
set_option maxRecDepth 100000 in
theorem exec_eql {ev : Operand → Value} {oi : Oper} {x y : Operand} {u : TypeId} {i j : Int} {s t : ByteArray} {w : World} (ho : oi.op = .binOp .eql 84 x y u) (hx : ev x = entV i s) (hy : ev y = entV j t) : (execOp ev oi).run Tryz.prog w = .ok (.value (.bool (eqE i s j t))) w := by
  unfold execOp
  rw [ho]
  simp only [hx, hy]
  have hg := run_eqGuard_agg (P := Tryz.prog) w .eql 84 x y (entC i s).toArray (entC j t).toArray (by kernel_rfl)
  have hb := eql_ent i s j t w
  unfold entV at hb ⊢
  simp only [Sem.run_bind, hg, hb, Result.andThen_ok]
  rfl
set_option maxRecDepth 100000 in
theorem exec_neq {ev : Operand → Value} {oi : Oper} {x y : Operand} {u : TypeId} {i j : Int} {s t : ByteArray} {w : World} (ho : oi.op = .binOp .neq 84 x y u) (hx : ev x = entV i s) (hy : ev y = entV j t) : (execOp ev oi).run Tryz.prog w = .ok (.value (.bool (!eqE i s j t))) w := by
  unfold execOp
  rw [ho]
  simp only [hx, hy]
  have hg := run_eqGuard_agg (P := Tryz.prog) w .neq 84 x y (entC i s).toArray (entC j t).toArray (by kernel_rfl)
  have hb := neq_ent i s j t w
  unfold entV at hb ⊢
  simp only [Sem.run_bind, hg, hb, Result.andThen_ok]
  rfl
/-- An entry lies at block b. -/
def NAt (b : Nat) (i : Int) (s : ByteArray) (W : World) : Prop := W.heap[b]? = some (.cells (entC i s).toArray 84 (0, 0))
theorem NAt.lt {b : Nat} {i : Int} {s : ByteArray} {W : World} (h : NAt b i s W) : b < W.heap.size := lt_of_block h
theorem NAt.below {b : Nat} {i : Int} {s : ByteArray} {W W' : World} {B : Nat} (h : NAt b i s W) (hB : Below B W W') (hb : b < B) : NAt b i s W' := by
  unfold NAt
  rw [hB.block b hb]
  exact h
theorem NAt.only {b : Nat} {i : Int} {s : ByteArray} {S : Nat → Prop} {W W' : World} (h : NAt b i s W) (hB : Only S W W') (hb : ¬ S b) : NAt b i s W' := by
  unfold NAt
  rw [hB.block b h.lt hb]
  exact h
theorem NAt.new (w : World) (i : Int) (s : ByteArray) : NAt w.heap.size i s (w.alloc (.cells (entC i s).toArray 84)) := blk_new w _
theorem NAt.cell {b : Nat} {i : Int} {s : ByteArray} {W : World} (h : NAt b i s W) : W.cell? ⟨b, 0, none⟩ = some (.int .i64 i) ∧ W.cell? ⟨b, 1, none⟩ = some (.string s) := by
  rw [blk_cell h, blk_cell h]
  exact ⟨rfl, rfl⟩
theorem info26 : (Tryz.prog.info? 84).map (fun i => (i.zero, i.size, i.bytes)) = some (some (entV 0 noS), 2, 24) := by kernel_rfl
set_option maxRecDepth 100000 in
theorem info26p : ∃ i0, Tryz.prog.info? 84 = some i0 ∧ i0.zero = some (entV 0 noS) ∧ i0.size = 2 ∧ i0.bytes = 24 := by
  cases h : Tryz.prog.info? 84 with
  | none => have := info26; rw [h] at this; cases this
  | some i =>
    have h2 := info26
    rw [h] at h2
    simp at h2
    exact ⟨i, rfl, h2.1, h2.2⟩
set_option maxRecDepth 100000 in
/-- A load of an entry from two cells. -/
theorem load26_at {a : Addr} {i : Int} {s : ByteArray} {W : World} (h0 : W.cell? (a.add 0) = some (.int .i64 i)) (h1 : W.cell? (a.add 1) = some (.string s)) : (Instr.loadAt 84 (.pointer (some a))).run Tryz.prog W = .ok (entV i s) W := by
  have h := run_loadCells_list (P := Tryz.prog) W a (entC i s) (fun j v hj => by
    match j, hj with
    | 0, hj => cases hj; exact h0
    | 1, hj => cases hj; exact h1)
  have h2 : (loadCells a 2).run Tryz.prog W = .ok (entC i s).toArray W := h
  simp [Instr.loadAt, Instr.sureAddr, loadVar, h2, entV]
theorem add_zero (a : Addr) : a.add 0 = a := by simp [Addr.add]
theorem load26_run {b : Nat} {i : Int} {s : ByteArray} {W : World} (hN : NAt b i s W) : (Instr.loadAt 84 (.pointer (some ⟨b, 0, none⟩))).run Tryz.prog W = .ok (entV i s) W :=
  load26_at (by rw [add_zero]; exact hN.cell.1) (by rw [add_at]; exact hN.cell.2)
set_option maxRecDepth 100000 in
theorem exec_load26 {ev : Operand → Value} {oi : Oper} {x : Operand} {a : Addr} {i : Int} {s : ByteArray} {W : World} (ho : oi.op = .load 84 x) (hx : ev x = .pointer (some a)) (hr : (Instr.loadAt 84 (.pointer (some a))).run Tryz.prog W = .ok (entV i s) W) : (execOp ev oi).run Tryz.prog W = .ok (.value (entV i s)) W := by
  unfold execOp
  rw [ho]
  simp only [hx, Sem.run_bind, hr, Result.andThen_ok]
  rfl
set_option maxRecDepth 100000 in
theorem store26_run {b : Nat} {i j : Int} {s t : ByteArray} {W : World} (hN : NAt b i s W) : ∃ W', (Instr.storeAt 84 (.pointer (some ⟨b, 0, none⟩)) (entV j t)).run Tryz.prog W = .ok () W' ∧ NAt b j t W' ∧ Only (fun k => k = b) W W' := by
  have hst := run_storeCells_at Tryz.prog b 0 84 (entC j t) 0 (entC i s).toArray W hN (by simp [entC]) (entC_one _ _)
  have e : ((entC i s).toArray.toList.take (0 + 0) ++ entC j t ++ (entC i s).toArray.toList.drop (0 + 0 + (entC j t).length)).toArray = (entC j t).toArray := by
    rw [List.drop_of_length_le (by simp [entC])]
    simp
  rw [e] at hst
  refine ⟨_, ?_, setRow_heap W b _ _ 84 _ hN, (Only.refl (fun k => k = b) W).setRow (.inl rfl) _⟩
  · have hl : (entC j t).length = 2 := rfl
    simp [Instr.storeAt, Instr.sureAddr, storeVar, entV, Value.cells, hl]
    simpa using hst
set_option maxRecDepth 100000 in
theorem alloc26_run (W : World) : (Instr.alloc 84 true (.tuple #[])).run Tryz.prog W = .ok (.pointer (some ⟨W.heap.size, 0, none⟩)) (W.alloc (.cells (entC 0 noS).toArray 84)) := by
  obtain ⟨i0, hi, hz0, hz1, hz2⟩ := info26p
  simp [Instr.alloc, zeroValue, typeInfo, hi, hz0, newVar, newRow, entV, Value.cells]
set_option maxRecDepth 100000 in
theorem exec_alloc26 {ev : Operand → Value} {oi : Oper} {W : World} (ho : oi.op = .alloc 84) : (execOp ev oi).run Tryz.prog W = .ok (.value (.pointer (some ⟨W.heap.size, 0, none⟩))) (W.alloc (.cells (entC 0 noS).toArray 84)) := by
  unfold execOp
  rw [ho]
  simp only [Sem.run_bind, alloc26_run, Result.andThen_ok]
  rfl
set_option maxRecDepth 100000 in
theorem exec_box26 {ev : Operand → Value} {oi : Oper} {x : Operand} {i : Int} {s : ByteArray} {W : World} (ho : oi.op = .box 84 x) (hx : ev x = entV i s) : (execOp ev oi).run Tryz.prog W = .ok (.value (.pointer (some ⟨W.heap.size, 0, none⟩))) (W.alloc (.cells (entC i s).toArray 84)) := by
  unfold execOp
  rw [ho]
  simp only [hx]
  simp [Instr.box, newVar, newRow, entV, Value.cells]
set_option maxRecDepth 100000 in
theorem exec_build26 {ev : Operand → Value} {oi : Oper} {W : World} (ho : oi.op = .build 84 #[]) : (execOp ev oi).run Tryz.prog W = .ok (.value (entV 0 noS)) W := by
  obtain ⟨i0, hi, hz0, hz1, hz2⟩ := info26p
  unfold execOp
  rw [ho]
  simp [Instr.build, run_underlying Tryz.underlying84, zeroValue, typeInfo, hi, hz0, entV, Value.cells, Instr.fill]
set_option maxRecDepth 100000 in
theorem exec_build26two {ev : Operand → Value} {oi : Oper} {x y : Operand} {i : Int} {s : ByteArray} {W : World} (ho : oi.op = .build 84 #[(0, x), (1, y)]) (hx : ev x = .int .i64 i) (hy : ev y = .string s) : (execOp ev oi).run Tryz.prog W = .ok (.value (entV i s)) W := by
  obtain ⟨i0, hi, hz0, hz1, hz2⟩ := info26p
  unfold execOp
  rw [ho]
  simp [Instr.build, run_underlying Tryz.underlying84, zeroValue, typeInfo, hi, hz0, entV, Value.cells, Instr.fill, hx, hy, noS, entC]
set_option maxRecDepth 100000 in
/-- An operation whose outcome is known. -/
theorem wpList_known {P : Program} {w : World} {ops : Array Oper} {rest : List Oper} {o : Oper} {a : Act} {Q : Exit → Act → World → Prop} (hw : Region.wanted o (yielded ops a.tmps) = true) (v : Value) (w' : World)
    (hrun : (execOp a.eval o).run P w = .ok (.value v) w') (h : wpList P ops Q rest (a.put o.dst v) w') : wpList P ops Q (o :: rest) a w := by
  refine BigFrame.wpList_want hw fun K hK => ?_
  unfold Oper.wp
  rw [hrun, Oper.upon_value]
  exact hK _ _ h
set_option maxRecDepth 100000 in
theorem wpList_stored {P : Program} {w : World} {ops : Array Oper} {rest : List Oper} {o : Oper} {a : Act} {Q : Exit → Act → World → Prop} (hw : Region.wanted o (yielded ops a.tmps) = true) (w' : World)
    (hrun : (execOp a.eval o).run P w = .ok .skip w') (h : wpList P ops Q rest (a.put o.dst undef) w') : wpList P ops Q (o :: rest) a w := by
  refine BigFrame.wpList_want hw fun K hK => ?_
  unfold Oper.wp
  rw [hrun, Oper.upon_skip]
  exact hK _ _ h
set_option maxRecDepth 100000 in
theorem exec_strneq {ev : Operand → Value} {oi : Oper} {x y : Operand} {u : TypeId} {s t : ByteArray} {w : World} (c : Bool) (hc : (s.toList == t.toList) = c) (ho : oi.op = .binOp .neq 9 x y u) (hx : ev x = .string s) (hy : ev y = .string t) : (execOp ev oi).run Tryz.prog w = .ok (.value (.bool (!c))) w := by
  subst hc
  unfold execOp
  rw [ho]
  simp only [hx, hy]
  go_simp
set_option maxRecDepth 100000 in
theorem exec_streql {ev : Operand → Value} {oi : Oper} {x y : Operand} {u : TypeId} {s t : ByteArray} {w : World} (c : Bool) (hc : (s.toList == t.toList) = c) (ho : oi.op = .binOp .eql 9 x y u) (hx : ev x = .string s) (hy : ev y = .string t) : (execOp ev oi).run Tryz.prog w = .ok (.value (.bool c)) w := by
  subst hc
  unfold execOp
  rw [ho]
  simp only [hx, hy]
  go_simp
/-! One operation each, its form asked for first. -/
section
variable {w : World} {ops : Array Oper} {rest : List Oper} {o : Oper} {a : Act} {Q : Exit → Act → World → Prop}
set_option maxRecDepth 100000 in
theorem wpL_load (x : Operand) (ho : o.op = .load 84 x) (hw : Region.wanted o (yielded ops a.tmps) = true) (b : Nat) (i : Int) (s : ByteArray) (hx : a.eval x = .pointer (some ⟨b, 0, none⟩)) (hN : NAt b i s w) (h : wpList Tryz.prog ops Q rest (a.put o.dst (entV i s)) w) : wpList Tryz.prog ops Q (o :: rest) a w :=
  wpList_known hw _ _ (exec_load26 ho hx (load26_run hN)) h
set_option maxRecDepth 100000 in
theorem wpL_loadat (x : Operand) (ho : o.op = .load 84 x) (hw : Region.wanted o (yielded ops a.tmps) = true) (p : Addr) (i : Int) (s : ByteArray) (hx : a.eval x = .pointer (some p)) (hr : (Instr.loadAt 84 (.pointer (some p))).run Tryz.prog w = .ok (entV i s) w) (h : wpList Tryz.prog ops Q rest (a.put o.dst (entV i s)) w) : wpList Tryz.prog ops Q (o :: rest) a w :=
  wpList_known hw _ _ (exec_load26 ho hx hr) h
set_option maxRecDepth 100000 in
theorem wpL_store (p x : Operand) (ho : o.op = .store 84 p x) (hw : Region.wanted o (yielded ops a.tmps) = true) (v u : Value) (w' : World) (hp : a.eval p = v) (hx : a.eval x = u) (hr : (Instr.storeAt 84 v u).run Tryz.prog w = .ok () w') (h : wpList Tryz.prog ops Q rest (a.put o.dst undef) w') : wpList Tryz.prog ops Q (o :: rest) a w :=
  wpList_stored hw _ (exec_store ho hp hx hr) h
theorem wpL_build (ho : o.op = .build 84 #[]) (hw : Region.wanted o (yielded ops a.tmps) = true) (h : wpList Tryz.prog ops Q rest (a.put o.dst (entV 0 noS)) w) : wpList Tryz.prog ops Q (o :: rest) a w :=
  wpList_known hw _ _ (exec_build26 ho) h
set_option maxRecDepth 100000 in
theorem wpL_buildtwo (x y : Operand) (ho : o.op = .build 84 #[(0, x), (1, y)]) (hw : Region.wanted o (yielded ops a.tmps) = true) (i : Int) (s : ByteArray) (hx : a.eval x = .int .i64 i) (hy : a.eval y = .string s) (h : wpList Tryz.prog ops Q rest (a.put o.dst (entV i s)) w) : wpList Tryz.prog ops Q (o :: rest) a w :=
  wpList_known hw _ _ (exec_build26two ho hx hy) h
set_option maxRecDepth 100000 in
theorem wpL_alloc (ho : o.op = .alloc 84) (hw : Region.wanted o (yielded ops a.tmps) = true) (b : Nat) (W1 : World) (hb : b = w.heap.size) (hW : W1 = w.alloc (.cells (entC 0 noS).toArray 84)) (h : wpList Tryz.prog ops Q rest (a.put o.dst (.pointer (some ⟨b, 0, none⟩))) W1) : wpList Tryz.prog ops Q (o :: rest) a w := by
  subst hb hW
  exact wpList_known hw _ _ (exec_alloc26 ho) h
set_option maxRecDepth 100000 in
theorem wpL_neq (x y : Operand) (u : TypeId) (ho : o.op = .binOp .neq 84 x y u) (hw : Region.wanted o (yielded ops a.tmps) = true) (i : Int) (s : ByteArray) (j : Int) (t : ByteArray) (c : Bool) (hc : eqE i s j t = c) (hx : a.eval x = entV i s) (hy : a.eval y = entV j t) (h : wpList Tryz.prog ops Q rest (a.put o.dst (.bool (!c))) w) : wpList Tryz.prog ops Q (o :: rest) a w := by
  subst hc
  exact wpList_known hw _ _ (exec_neq ho hx hy) h
set_option maxRecDepth 100000 in
theorem wpL_eql (x y : Operand) (u : TypeId) (ho : o.op = .binOp .eql 84 x y u) (hw : Region.wanted o (yielded ops a.tmps) = true) (i : Int) (s : ByteArray) (j : Int) (t : ByteArray) (c : Bool) (hc : eqE i s j t = c) (hx : a.eval x = entV i s) (hy : a.eval y = entV j t) (h : wpList Tryz.prog ops Q rest (a.put o.dst (.bool c)) w) : wpList Tryz.prog ops Q (o :: rest) a w := by
  subst hc
  exact wpList_known hw _ _ (exec_eql ho hx hy) h
set_option maxRecDepth 100000 in
theorem wpL_box (x : Operand) (ho : o.op = .box 84 x) (hw : Region.wanted o (yielded ops a.tmps) = true) (i : Int) (s : ByteArray) (b : Nat) (W1 : World) (hb : b = w.heap.size) (hW : W1 = w.alloc (.cells (entC i s).toArray 84)) (hx : a.eval x = entV i s) (h : wpList Tryz.prog ops Q rest (a.put o.dst (.pointer (some ⟨b, 0, none⟩))) W1) : wpList Tryz.prog ops Q (o :: rest) a w := by
  subst hb hW
  exact wpList_known hw _ _ (exec_box26 ho hx) h
set_option maxRecDepth 100000 in
theorem wpL_conv (x : Operand) (ho : o.op = .convert 26 9 x) (hw : Region.wanted o (yielded ops a.tmps) = true) (ao : Option Addr) (n c : Nat) (xs : List Int) (hx : a.eval x = .slice ao n c) (hB : BAt w ao n xs) (SX : ByteArray) (hS : SX = strOfNums xs) (h : wpList Tryz.prog ops Q rest (a.put o.dst (.string SX)) w) : wpList Tryz.prog ops Q (o :: rest) a w := by
  subst hS
  exact wpList_known hw _ _ (exec_convert ho hx (conv_bytes _ _ _ _ _ hB)) h
set_option maxRecDepth 100000 in
theorem wpL_strneq (x y : Operand) (u : TypeId) (ho : o.op = .binOp .neq 9 x y u) (hw : Region.wanted o (yielded ops a.tmps) = true) (s t : ByteArray) (c : Bool) (hc : (s.toList == t.toList) = c) (hx : a.eval x = .string s) (hy : a.eval y = .string t) (h : wpList Tryz.prog ops Q rest (a.put o.dst (.bool (!c))) w) : wpList Tryz.prog ops Q (o :: rest) a w :=
  wpList_known hw _ _ (exec_strneq c hc ho hx hy) h
set_option maxRecDepth 100000 in
theorem wpL_streql (x y : Operand) (u : TypeId) (ho : o.op = .binOp .eql 9 x y u) (hw : Region.wanted o (yielded ops a.tmps) = true) (s t : ByteArray) (c : Bool) (hc : (s.toList == t.toList) = c) (hx : a.eval x = .string s) (hy : a.eval y = .string t) (h : wpList Tryz.prog ops Q rest (a.put o.dst (.bool c)) w) : wpList Tryz.prog ops Q (o :: rest) a w :=
  wpList_known hw _ _ (exec_streql c hc ho hx hy) h
end
end Ent
end Go.Proofs.YtejnmpnioeamhaaGreat
namespace Go.Proofs.YtejnmpnioeamhaaGreat
open Go Go.Proofs Go.RowKit Go.Shelf
namespace Ent
/-- Is it an entry? -/
def isB (i : Int) (l : List Int) : Bool := if i = 0 then decide (l = []) else fitB 4294967295 i && nameB l
/-- The bytes of an entry. -/
def entL (i : Int) (l : List Int) : List Int := ((leL i 4 ++ [(l.length : Int)]) ++ l) ++ zeros (32 - (5 + l.length))
/-- What stands where the number and the name of an entry do. -/
def gotI (xs : List Int) : Int := numL (xs.take 4)
def gotL (xs : List Int) : List Int := (xs.drop 5).take (xs.getD 4 0).toNat
/-- Are they the bytes of an entry? -/
def rdB (xs : List Int) : Bool := decide (xs.length = 32) && (decide (xs.getD 4 0 ≤ 27) && (isB (gotI xs) (gotL xs) && eqB (entL (gotI xs) (gotL xs)) xs))
def rdI (xs : List Int) : Int := if rdB xs = true then gotI xs else 0
def rdS (xs : List Int) : ByteArray := if rdB xs = true then strOfNums (gotL xs) else noS
def rdE (xs : List Int) : Int := if rdB xs = true then 0 else 5
theorem isB_zero (l : List Int) : isB 0 l = decide (l = []) := by simp [isB]
theorem isB_some {i : Int} (h : i ≠ 0) (l : List Int) : isB i l = (fitB 4294967295 i && nameB l) := by simp [isB, h]
set_option maxRecDepth 100000 in
theorem isB_parts {i : Int} {l : List Int} (h : isB i l = true) : (0 ≤ i ∧ i ≤ 4294967295) ∧ l.length ≤ 27 := by
  by_cases h0 : i = 0
  · subst h0
    rw [isB_zero] at h
    have : l = [] := by simpa using h
    subst this
    simp
  · rw [isB_some h0, Bool.and_eq_true] at h
    exact ⟨fitB_iff.1 h.1, (nameB_yes.1 h.2).2.1⟩
theorem entL_length (i : Int) (l : List Int) (h : l.length ≤ 27) : (entL i l).length = 32 := by
  simp [entL, leL_length, zeros_length]
  omega
set_option maxRecDepth 100000 in
theorem entL_bound (i : Int) (l : List Int) (h : l.length ≤ 27) (hl : ∀ x ∈ l, 0 ≤ x ∧ x ≤ 255) : ∀ x ∈ entL i l, 0 ≤ x ∧ x ≤ 255 := by
  intro x hx
  unfold entL at hx
  simp only [List.mem_append, List.mem_singleton] at hx
  rcases hx with ((hx | hx) | hx) | hx
  · exact leL_bound _ _ _ hx
  · omega
  · exact hl x hx
  · exact zeros_bound _ _ hx
theorem entL_none : entL 0 [] = zeros 32 := by decide +kernel
theorem numL_leL (n : Int) (h0 : 0 ≤ n) (h1 : n < 4294967296) : numL (leL n 4) = n := by
  have e : leL n 4 = [n % 256, n / 256 % 256, n / 65536 % 256, n / 16777216 % 256] := by
    simp [leL, List.range_succ]
  rw [e]
  simp only [numL]
  omega
set_option maxRecDepth 100000 in
/-- How the program puts them together. -/
theorem put_len (i : Int) (y : Int) : (splice (zeros 32) 0 (leLs 4 [i])).set 4 y = (leL i 4 ++ [y]) ++ zeros 27 := by
  have e : leLs 4 [i] = leL i 4 := by simp [leLs]
  have h := splice_snoc (zeros 32) 0 (leL i 4) y (by simp [leL_length, zeros_length])
  rw [leL_length] at h
  have h2 := splice_zero 32 [] (leL i 4 ++ [y]) 0 rfl (by simp [leL_length])
  rw [e]
  simp only [Nat.zero_add] at h
  rw [h]
  simpa [leL_length] using h2
theorem put_name (i : Int) (l : List Int) (h : l.length ≤ 27) : splice ((leL i 4 ++ [(l.length : Int)]) ++ zeros 27) 5 l = entL i l := by
  exact splice_zero 32 (leL i 4 ++ [(l.length : Int)]) l 5 (by simp [leL_length]) (by omega)
set_option maxRecDepth 100000 in
theorem got_ent (i : Int) (l : List Int) (h : isB i l = true) : gotI (entL i l) = i ∧ gotL (entL i l) = l ∧ (entL i l).getD 4 0 = l.length := by
  obtain ⟨hi, hl⟩ := isB_parts h
  have e4 : (leL i 4).length = 4 := leL_length _ _
  have e5 : (leL i 4 ++ [(l.length : Int)]).length = 5 := by simp [e4]
  have g4 : (entL i l).getD 4 0 = l.length := by
    unfold entL
    rw [List.append_assoc, List.append_assoc, List.getD, List.getElem?_append_right (by omega), e4]
    simp
  refine ⟨?_, ?_, g4⟩
  · unfold gotI entL
    rw [List.append_assoc, List.append_assoc, List.take_left' e4]
    exact numL_leL i hi.1 (by omega)
  · unfold gotL
    rw [g4]
    unfold entL
    rw [List.append_assoc (leL i 4 ++ [(l.length : Int)]), List.drop_left' e5, Int.toNat_natCast, List.take_left' rfl]
theorem ent_rd {i : Int} {l : List Int} (h : isB i l = true) : rdB (entL i l) = true := by
  obtain ⟨h1, h2, h3⟩ := got_ent i l h
  obtain ⟨hi, hl⟩ := isB_parts h
  unfold rdB
  rw [h1, h2, h3, h, entL_length i l hl]
  simp [eqB]
  omega
theorem ent_reads {i : Int} {s : ByteArray} (h : isB i (nm s) = true) : rdI (entL i (nm s)) = i ∧ rdS (entL i (nm s)) = s ∧ rdE (entL i (nm s)) = 0 := by
  obtain ⟨h1, h2, h3⟩ := got_ent i (nm s) h
  unfold rdI rdS rdE
  rw [ent_rd h, h1, h2]
  simp [str_nm]
theorem rd_parts {xs : List Int} (h : rdB xs = true) : xs.length = 32 ∧ xs.getD 4 0 ≤ 27 ∧ isB (gotI xs) (gotL xs) = true ∧ entL (gotI xs) (gotL xs) = xs := by
  unfold rdB at h
  simpa [eqB] using h
theorem got_bound (xs : List Int) (h : ∀ x ∈ xs, 0 ≤ x ∧ x ≤ 255) : ∀ x ∈ gotL xs, 0 ≤ x ∧ x ≤ 255 := take_bound _ (drop_bound _ h _) _
theorem isB_none : isB 0 [] = true := by decide
set_option maxRecDepth 100000 in
/-- What Read tells is an entry. -/
theorem rd_is (xs : List Int) (h : ∀ x ∈ xs, 0 ≤ x ∧ x ≤ 255) : isB (rdI xs) (nm (rdS xs)) = true := by
  unfold rdI rdS
  by_cases hr : rdB xs = true
  · rw [if_pos hr, if_pos hr, nm_str _ (got_bound xs h)]
    exact (rd_parts hr).2.2.1
  · rw [if_neg hr, if_neg hr]
    exact isB_none
end Ent
end Go.Proofs.YtejnmpnioeamhaaGreat
namespace Go.Proofs.YtejnmpnioeamhaaGreat
open Go Go.Proofs Go.RowKit Go.Shelf
namespace Ent
theorem byteCells_nm (s : ByteArray) : Lib.byteCells s.data.toList = By (nm s) := by
  simp [Lib.byteCells, By, nm]
set_option maxRecDepth 100000 in
/-- copy(b, s), s a string. -/
theorem copy_str_run (W : World) (g o n c : Nat) (xs : List Int) (s : ByteArray) (h : RAt W g xs) (hn : s.size ≤ n) (hl : o + n ≤ xs.length) :
    ∃ W', (Builtin.copy_ #[26, 9] 3 #[.slice (some ⟨g, o, none⟩) n c, .string s]).run Tryz.prog W = .ok (.int .i64 s.size) W' ∧ RAt W' g (splice xs o (nm s)) ∧ Only (fun k => k = g) W W' := by
  obtain ⟨i0, hi, hz0, hz1, hz2⟩ := info5p
  have hsz : s.size = (nm s).length := (nm_length s).symm
  have hr := Lib.run_copy_row_string (P := Tryz.prog) W 26 9 3 5 g o n c s (By xs).toArray 5 Tryz.underlying26 (by rw [hi]; simp [hz1]) h (by omega) (by simp [By_length]; omega)
  refine ⟨W.setRow g (By (splice xs o (nm s))).toArray, hr.trans ?_, setRow_heap W g _ _ 5 _ h, (Only.refl (fun k => k = g) W).setRow (.inl rfl) _⟩
  rw [hsz, byteCells_nm]
  simp [splice, By]
  rfl
set_option maxRecDepth 100000 in
/-- One int as a row of ints. -/
theorem _root_.Go.Proofs.YtejnmpnioeamhaaGreat.LAt.one (w : World) (i : Int) : LAt (w.alloc (.cells #[.int .i64 i] 3)) (some ⟨w.heap.size, 0, none⟩) 1 [i] := by
  refine ⟨rfl, fun _ => ⟨_, rfl, by simp, fun k hk => ?_⟩⟩
  obtain rfl : k = 0 := by omega
  rw [add_zero, blk_cell (blk_new w _)]
  rfl
set_option maxRecDepth 100000 in
set_option maxHeartbeats 1000000 in
theorem maybe_any (w : World) (i : Int) (s : ByteArray) (hs : s.size ≤ 1000) : Calls Tryz.prog 93 #[entV i s] w fun e w' => e = .returned (.bool (isB i (nm s))) ∧ Below w.heap.size w w' := by
  obtain ⟨b, hb⟩ : ∃ b, b = w.heap.size := ⟨_, rfl⟩
  obtain ⟨W1, hW1⟩ : ∃ W1, W1 = w.alloc (.cells (entC i s).toArray 84) := ⟨_, rfl⟩
  have hN : NAt b i s W1 := by rw [hW1, hb]; exact NAt.new _ _ _
  have hB1 : Below b w W1 := by rw [hW1]; exact (Below.refl _ w).alloc (by omega) _
  obtain ⟨hc0, hc1⟩ := hN.cell
  rw [← hb]
  have HB1 := Hid.mk hB1
  have HN := Hid.mk hN
  have HBE := Hid.mk hb
  have HW1 := Hid.mk hW1
  clear hB1 hN hb hW1
  by_cases h0 : i = 0
  · subst h0
    have HI := Hid.mk (isB_zero (nm s))
    have hE := nm_empty s
    have HE : Hid (s.toList.isEmpty = decide (nm s = [])) := Hid.mk (by
      rw [hE]; congr 1; rw [eq_iff_iff, ← nm_length]; exact List.length_eq_zero_iff)
    clear hE
    go_enter Tryz.func93, Tryz.ntmps93
    go_wp2_with (refine wpL_box (.tmp 0) rfl rfl 0 s b W1 HBE.out HW1.out rfl ?_)
    go_ret
    exact ⟨by rw [HI.out, ← HE.out]; rfl, HB1.out⟩
  · have HI := Hid.mk (isB_some h0 (nm s))
    have h0' : (i == 0) = false := by simp [h0]
    have hbl : Below W1.heap.size W1 (W1.alloc (.cells #[.int .i64 i] 3)) := (Below.refl _ W1).alloc (Nat.le_refl _) _
    have HB2 := Hid.mk (HB1.out.trans (hbl.mono (Nat.le_of_lt HN.out.lt)))
    have hc2 := (HN.out.below hbl HN.out.lt).cell.2
    have HF : Hid (fitL 4294967295 [i] = fitB 4294967295 i) := Hid.mk (by simp [fitL])
    clear hbl
    cases hf : fitB 4294967295 i with
    | false =>
      have HR := Hid.mk (show isB i (nm s) = false by rw [HI.out, hf]; rfl)
      have H1 := Hid.mk (HF.out.trans hf)
      clear hf HI HF
      go_enter Tryz.func93, Tryz.ntmps93
      go_wp2_with (first
        | (refine wpL_box (.tmp 0) rfl rfl i s b W1 HBE.out HW1.out rfl ?_)
        | (go_at_call 71; refine (fits32_any _ _ 1 1 [i] (LAt.one _ _) (by omega)).mono ?_; rintro e w' ⟨rfl, hw⟩; subst w'; rw [H1.out]))
      go_ret
      exact ⟨by rw [HR.out]; rfl, HB2.out⟩
    | true =>
      have HR := Hid.mk (show isB i (nm s) = nameB (nm s) by rw [HI.out, hf]; rfl)
      have H1 := Hid.mk (HF.out.trans hf)
      clear hf HI HF
      go_enter Tryz.func93, Tryz.ntmps93
      go_wp2_with (first
        | (refine wpL_box (.tmp 0) rfl rfl i s b W1 HBE.out HW1.out rfl ?_)
        | (go_at_call 71; refine (fits32_any _ _ 1 1 [i] (LAt.one _ _) (by omega)).mono ?_; rintro e w' ⟨rfl, hw⟩; subst w'; rw [H1.out])
        | (go_at_call 100; refine (name_any _ s hs).mono ?_; rintro e w' ⟨rfl, hw⟩; subst w'))
      go_ret
      exact ⟨by rw [HR.out]; rfl, HB2.out⟩
/-- What Pack holds in memory: the entry, the row that it makes. -/
structure PkAt (w : World) (b g : Nat) (i : Int) (s : ByteArray) (xs : List Int) (W : World) : Prop where
  ent : NAt b i s W
  row : RAt W g xs
  below : Below b w W
  lt : b < g
set_option maxRecDepth 100000 in
theorem PkAt.put {w W W' : World} {b g : Nat} {i : Int} {s : ByteArray} {xs ys : List Int} (h : PkAt w b g i s xs W) (hr : RAt W' g ys) (ho : Only (fun k => k = g) W W') : PkAt w b g i s ys W' :=
  ⟨h.ent.only ho (by have := h.lt; omega), hr, h.below.trans (ho.below (Nat.le_of_lt h.ent.lt) (fun k e => by have := h.lt; omega)), h.lt⟩
theorem PkAt.then {w W W' : World} {b g : Nat} {i : Int} {s : ByteArray} {xs : List Int} (h : PkAt w b g i s xs W) (hb : Below W.heap.size W W') : PkAt w b g i s xs W' :=
  ⟨h.ent.below hb h.ent.lt, h.row.below hb h.row.lt, h.below.trans (hb.mono (Nat.le_of_lt h.ent.lt)), h.lt⟩
theorem PkAt.drew {w W : World} {b g : Nat} {i : Int} {s : ByteArray} {xs : List Int} (h : PkAt w b g i s xs W) : PkAt w b g i s xs W.drew := ⟨h.ent, h.row, h.below.drew, h.lt⟩
set_option maxRecDepth 100000 in
theorem pack_no (w : World) (i : Int) (s : ByteArray) (hs : s.size ≤ 1000) (hf : isB i (nm s) = false) : Calls Tryz.prog 73 #[entV i s] w fun e w' => e = .returned (.tuple #[.slice none 0 0, .int .i64 1]) ∧ Below w.heap.size w w' := by
  obtain ⟨b, hb⟩ : ∃ b, b = w.heap.size := ⟨_, rfl⟩
  obtain ⟨W1, hW1⟩ : ∃ W1, W1 = w.alloc (.cells (entC i s).toArray 84) := ⟨_, rfl⟩
  have hN : NAt b i s W1 := by rw [hW1, hb]; exact NAt.new _ _ _
  have hB1 : Below b w W1 := by rw [hW1]; exact (Below.refl _ w).alloc (by omega) _
  rw [← hb]
  have HB1 := Hid.mk hB1
  have HN := Hid.mk hN
  have HBE := Hid.mk hb
  have HW1 := Hid.mk hW1
  have HF := Hid.mk hf
  clear hB1 hN hb hW1 hf
  go_enter Tryz.func73, Tryz.ntmps73
  go_wp2_with (first
    | (refine wpL_box (.tmp 0) rfl rfl i s b W1 HBE.out HW1.out rfl ?_)
    | (refine wpL_load (.tmp 1) rfl rfl b i s rfl HN.out ?_)
    | (go_at_call 93; refine (maybe_any _ i s hs).mono ?_; rintro e W2 ⟨rfl, hb2⟩; rw [HF.out]; have HB2 := Hid.mk hb2; clear hb2))
  go_ret2
  exact ⟨rfl, HB1.out.trans (HB2.out.mono (Nat.le_of_lt HN.out.lt))⟩
set_option maxRecDepth 100000 in
set_option maxHeartbeats 1000000 in
theorem pack_yes (w : World) (i : Int) (s : ByteArray) (hf : isB i (nm s) = true) : Calls Tryz.prog 73 #[entV i s] w fun e w' => ∃ g, e = .returned (.tuple #[.slice (some ⟨g, 0, none⟩) 32 32, .int .i64 0]) ∧ RAt w' g (entL i (nm s)) ∧ w.heap.size < g ∧ Below w.heap.size w w' := by
  obtain ⟨hi, hl⟩ := isB_parts hf
  have hs : s.size ≤ 27 := by rw [← nm_length]; exact hl
  obtain ⟨b, hb⟩ : ∃ b, b = w.heap.size := ⟨_, rfl⟩
  obtain ⟨W1, hW1⟩ : ∃ W1, W1 = w.alloc (.cells (entC i s).toArray 84) := ⟨_, rfl⟩
  have hN : NAt b i s W1 := by rw [hW1, hb]; exact NAt.new _ _ _
  have hB1 : Below b w W1 := by rw [hW1]; exact (Below.refl _ w).alloc (by omega) _
  rw [← hb]
  have HB1 := Hid.mk hB1
  have HN := Hid.mk hN
  have HBE := Hid.mk hb
  have HW1 := Hid.mk hW1
  have HF := Hid.mk hf
  clear hB1 hN hb hW1 hf hl
  go_enter Tryz.func73, Tryz.ntmps73
  go_upto_region 3 with (first
    | (refine wpL_box (.tmp 0) rfl rfl i s b W1 HBE.out HW1.out rfl ?_)
    | (refine wpL_load (.tmp 1) rfl rfl b i s rfl HN.out ?_)
    | (go_at_call 93; refine (maybe_any _ i s (by omega)).mono ?_; rintro e W2 ⟨rfl, hb2⟩; rw [HF.out]; have HB2 := Hid.mk hb2; clear hb2))
  obtain ⟨g, hg⟩ : ∃ g, g = W2.heap.size := ⟨_, rfl⟩
  obtain ⟨W3, hW3⟩ : ∃ W3, W3 = W2.alloc (.cells (By (zeros 32)).toArray 5) := ⟨_, rfl⟩
  have hMK := make_run W2 32 (by omega)
  rw [← hg] at hMK
  change _ = Result.ok _ (W2.alloc (.cells (By (zeros 32)).toArray 5)) at hMK
  rw [← hW3] at hMK
  have hP3 : PkAt w b g i s (zeros 32) W3 := by
    have h2 : NAt b i s W2 := HN.out.below HB2.out HN.out.lt
    have h3 : Below W2.heap.size W2 W3 := by rw [hW3]; exact (Below.refl _ W2).alloc (Nat.le_refl _) _
    exact ⟨h2.below h3 h2.lt, by rw [hW3, hg]; exact blk_new _ _, (HB1.out.trans (HB2.out.mono (Nat.le_of_lt HN.out.lt))).trans (h3.mono (Nat.le_of_lt h2.lt)), by rw [hg]; exact h2.lt⟩
  have hbl : Below W3.heap.size W3 (W3.alloc (.cells #[.int .i64 i] 3)) := (Below.refl _ W3).alloc (Nat.le_refl _) _
  have hP4 := hP3.then hbl
  have hc0 := hP3.ent.cell.1
  have HQ : Hid (Calls Tryz.prog 61 #[.slice (some ⟨g, 0, none⟩) 32 32, .slice (some ⟨W3.heap.size, 0, none⟩) 1 1] (W3.alloc (.cells #[.int .i64 i] 3)) fun e w' => e = .returned (.int .i64 4) ∧ PkAt w b g i s (splice (zeros 32) 0 (leLs 4 [i])) w') := Hid.mk (by
    refine (put32_any _ g 0 32 32 (zeros 32) (some ⟨W3.heap.size, 0, none⟩) 1 1 [i] hP4.row (LAt.one _ _) (fun a e => by cases e; exact fun e => by have := hP3.row.lt; simp at e; omega) (fun x hx => by simp at hx; subst hx; exact hi) (by omega) (by simp [zeros_length]) (by omega)).mono ?_
    rintro e w' ⟨rfl, h1, h2⟩
    exact ⟨rfl, hP4.put h1 h2⟩)
  have HMK := Hid.mk hMK
  clear hMK hP3 hP4 hbl hW3 hg HB2 HN HB1 HW1
  go_upto_region 6 with (first
    | (at_make; refine wpList_make_known rfl _ _ 26 rfl _ _ _ _ rfl rfl HMK.out ?_)
    | (go_at_call 61; refine HQ.out.mono ?_; rintro e W5 ⟨rfl, hp5⟩; have hc1 := hp5.ent.cell.2; have hc4 := blk_free hp5.row 4; have hc5 := blk_cell hp5.row 4; have HP5 := Hid.mk hp5; clear hp5))
  have hP6 : PkAt w b g i s ((leL i 4 ++ [((nm s).length : Int)]) ++ zeros 27) (W5.setCell ⟨g, 4, none⟩ (.int .u8 s.size)) := by
    refine HP5.out.put ?_ ((Only.refl (fun k => k = g) W5).setCell (.inl rfl) _)
    unfold RAt
    rw [blk_set HP5.out.row, By_setArr, put_len, nm_length]
  generalize W5.setCell ⟨g, 4, none⟩ (.int .u8 s.size) = W6 at hP6 ⊢
  obtain ⟨W7, hr7, hrow7, ho7⟩ := copy_str_run W6.drew g 5 27 27 _ s hP6.drew.row hs (by simp [leL_length, zeros_length])
  rw [put_name i (nm s) (by rw [nm_length]; exact hs)] at hrow7
  have HP7 := Hid.mk (hP6.drew.put hrow7 ho7)
  have HR7 := Hid.mk hr7
  have HP6 := Hid.mk hP6
  clear hP6 hr7 hrow7 ho7 HP5 HQ HMK hc0 hc1 hc4 hc5
  refine wp_region_held_drew (S := fun W => ∃ xs, PkAt w b g i s xs W) (by kernel_rfl) ⟨_, HP6.out.drew⟩ (fun hH => ?_)
  change wpAnyH Tryz.prog Region.Mode.any _ _ _ 5 _ _ _
  refine takeH 0 20 (.slice (some ⟨g, 0, none⟩) 32 32) rfl (by kernel_rfl) (by kernel_rfl) (by kernel_rfl) (by kernel_rfl) (fun _ _ _ h => h) (by kernel_rfl) (fun w hw => by kernel_rfl) hH ?_
  simp only [List.setIfInBounds_toArray, List.set_cons_zero, List.set_cons_succ]
  refine takeH 1 21 (.slice (some ⟨g, 5, none⟩) 27 27) rfl (by kernel_rfl) (by kernel_rfl) (by kernel_rfl) (by kernel_rfl) (fun _ _ _ h => h) (by kernel_rfl) (fun w hw => by (try dsimp only at hw); go_simp) hH ?_
  simp only [List.setIfInBounds_toArray, List.set_cons_zero, List.set_cons_succ]
  refine takeH 2 22 (.pointer (some ⟨b, 1, none⟩)) rfl (by kernel_rfl) (by kernel_rfl) (by kernel_rfl) (by kernel_rfl) (fun _ _ _ h => h) (by kernel_rfl) (fun w hw => by (try dsimp only at hw); go_simp) hH ?_
  simp only [List.setIfInBounds_toArray, List.set_cons_zero, List.set_cons_succ]
  refine takeH 3 23 (.string s) rfl (by kernel_rfl) (by kernel_rfl) (by kernel_rfl) (by kernel_rfl) (fun _ _ _ h => h) (by kernel_rfl) (fun w hw => by obtain ⟨xs, hp⟩ := hw; have h := hp.ent.cell.2; go_simp) hH ?_
  simp only [List.setIfInBounds_toArray, List.set_cons_zero, List.set_cons_succ]
  refine stepH_run 4 24 (.int .i64 s.size) W7 rfl (by kernel_rfl) (by kernel_rfl) (by kernel_rfl) (by
    unfold execOp
    simp only [resolve, invoke, builtin]
    simp [Act.eval, HR7.out]) ⟨_, HP7.out⟩ ?_
  simp only [List.setIfInBounds_toArray, List.set_cons_zero, List.set_cons_succ]
  refine wpAnyH_done (by kernel_rfl) ?_ _
  clear hH
  go_wp2_with fail
  go_ret2
  exact ⟨g, rfl, HP7.out.row, HP7.out.lt, HP7.out.below⟩
end Ent
end Go.Proofs.YtejnmpnioeamhaaGreat
namespace Go.Proofs.YtejnmpnioeamhaaGreat
open Go Go.Proofs Go.RowKit Go.Shelf
namespace Ent
def dotS : ByteArray := ⟨#[46]⟩
theorem dot_is : isB 1 (nm dotS) = true := by decide +kernel
theorem dot_len : (entL 1 (nm dotS)).length = 32 := by decide +kernel
theorem dot_at : (entL 1 (nm dotS)).getD 0 0 = 1 ∧ (entL 1 (nm dotS)).getD 4 0 = 1 ∧ (entL 1 (nm dotS)).getD 5 0 = 46 ∧ (entL 1 (nm dotS)).getD 6 0 = 0 := by decide +kernel
end Ent
end Go.Proofs.YtejnmpnioeamhaaGreat
namespace Go.Proofs.YtejnmpnioeamhaaGreat
open Go Go.Proofs Go.RowKit Go.Shelf
namespace Ent
set_option maxRecDepth 100000 in
theorem _root_.Go.Proofs.YtejnmpnioeamhaaGreat.BAt.frontEnt {W : World} {a : Addr} {n : Nat} {xs : List Int} (h : BAt W (some a) n xs) (m : Nat) (hm : m ≤ n) : BAt W (some a) m (xs.take m) := by
  refine ⟨by simp [h.1]; omega, fun hp => ?_⟩
  obtain ⟨a', e, hlt, hc⟩ := h.2 (by omega)
  refine ⟨a', e, hlt, fun i hi => ?_⟩
  rw [hc i (by omega)]
  simp [List.getD, hi]
theorem loadVar26 {b : Nat} {i : Int} {s : ByteArray} {W : World} (hN : NAt b i s W) : (loadVar 84 ⟨b, 0, none⟩).run Tryz.prog W = .ok (entV i s) W := by
  have h := load26_run hN
  simpa [Instr.loadAt, Instr.sureAddr] using h
set_option maxRecDepth 100000 in
theorem results_cell2 {f : Func} {tmps : Array Value} {a c b : Nat} {i : Int} {s : ByteArray} {W : World} (hf : f.results = #[.cell a 84, .tmp c]) (ht : tmps.getD a undef = .pointer (some ⟨b, 0, none⟩)) (hN : NAt b i s W) : (results f tmps).run Tryz.prog W = .ok (.tuple #[entV i s, tmps.getD c undef]) W := by
  have h := loadVar26 hN
  have ht2 : tmps[a]?.getD undef = .pointer (some ⟨b, 0, none⟩) := by rw [← ht]; simp
  unfold results
  rw [hf]
  simp [ht2, asAddr, h]
theorem alloc26_any (W : World) : ∃ X c, (Instr.alloc 84 true (.tuple #[])).run Tryz.prog W = .ok (.pointer (some ⟨c, 0, none⟩)) X ∧ NAt c 0 noS X ∧ Below W.heap.size W X ∧ W.heap.size ≤ c :=
  ⟨_, _, alloc26_run W, NAt.new W _ _, (Below.refl _ W).alloc (Nat.le_refl _) _, Nat.le_refl _⟩
set_option maxRecDepth 100000 in
theorem exec_alloc {ev : Operand → Value} {oi : Oper} {v : Value} {W X : World} (ho : oi.op = .alloc 84) (h : (Instr.alloc 84 true (.tuple #[])).run Tryz.prog W = .ok v X) : (execOp ev oi).run Tryz.prog W = .ok (.value v) X := by
  unfold execOp
  rw [ho]
  simp only [Sem.run_bind, h, Result.andThen_ok]
  rfl
section
variable {w : World} {ops : Array Oper} {rest : List Oper} {o : Oper} {a : Act} {Q : Exit → Act → World → Prop}
set_option maxRecDepth 100000 in
theorem wpL_new (ho : o.op = .alloc 84) (hw : Region.wanted o (yielded ops a.tmps) = true) (v : Value) (w' : World) (hr : (Instr.alloc 84 true (.tuple #[])).run Tryz.prog w = .ok v w') (h : wpList Tryz.prog ops Q rest (a.put o.dst v) w') : wpList Tryz.prog ops Q (o :: rest) a w :=
  wpList_known hw _ _ (exec_alloc ho hr) h
end
theorem rd_no {xs : List Int} (h : rdB xs = false) : rdI xs = 0 ∧ rdS xs = noS ∧ rdE xs = 5 := by simp [rdI, rdS, rdE, h]
theorem rd_yes {xs : List Int} (h : rdB xs = true) : rdI xs = gotI xs ∧ rdS xs = strOfNums (gotL xs) ∧ rdE xs = 0 := by simp [rdI, rdS, rdE, h]
theorem add4 (a : Addr) : a.add 4 = ⟨a.block, a.off + 4, none⟩ := by simp [Addr.add]
end Ent
end Go.Proofs.YtejnmpnioeamhaaGreat
namespace Go.Proofs.YtejnmpnioeamhaaGreat
open Go Go.Proofs Go.RowKit Go.Shelf
namespace Ent
theorem strCells_nm (s : ByteArray) : Lib.strCells s = By (nm s) := by
  simp [Lib.strCells, By, nm]
set_option maxRecDepth 100000 in
/-- append(b, s...), s a string. -/
theorem append_str_run (w : World) (B : Nat) (v : Value) (n : Nat) (xs : List Int) (s : ByteArray) (hown : w.ownsRow B 5 1 v n (By xs)) (hB : B ≤ w.heap.size) (hn : n + s.size ≤ 16777216) :
    ∃ v' w', (Builtin.append_ #[26, 9] 26 #[v, .string s]).run Tryz.prog w = .ok v' w' ∧ w'.ownsRow B 5 1 v' (n + s.size) (By (xs ++ nm s)) ∧ Below B w w' := by
  obtain ⟨i0, hi, hz0, hz1, hz2⟩ := info5p
  obtain ⟨v', w', h1, h2, h3, -⟩ := Lib.run_append_own_string (P := Tryz.prog) (w := w) B 26 9 26 5 i0 Tryz.underlying26 Tryz.underlying9 hi hz0 hz1 hz2 v n (By xs) hown s (by unfold maxLen; omega) (by omega) hB
  refine ⟨v', w', h1, ?_, (Below.refl _ w).grown h3 hB (fun k hk => (hown.lt k hk).1)⟩
  rw [strCells_nm] at h2
  simpa [By] using h2
set_option maxRecDepth 100000 in
theorem _root_.Go.Proofs.YtejnmpnioeamhaaGreat.RAt.owns {W : World} {g B n : Nat} {xs : List Int} (h : RAt W g xs) (hl : xs.length = n) (hn : n ≤ 16777216) (hB : B ≤ g) : W.ownsRow B 5 1 (.slice (some ⟨g, 0, none⟩) n n) n (By xs) := by
  refine ⟨by rw [By_length]; omega, .inr ⟨g, n, (By xs).toArray, rfl, hB, h, Nat.le_refl _, by unfold maxLen; omega, by simp [By_length]; omega, ?_⟩⟩
  rw [List.take_of_length_le (by simp [By_length]; omega)]
set_option maxRecDepth 100000 in
theorem rpack_no (w : World) (i : Int) (s : ByteArray) (hs : s.size ≤ 1000) (hf : isB i (nm s) = false) : Calls Tryz.prog 87 #[entV i s] w fun e w' => e = .returned (.tuple #[.slice none 0 0, .bool false]) ∧ Below w.heap.size w w' := by
  obtain ⟨b, hb⟩ : ∃ b, b = w.heap.size := ⟨_, rfl⟩
  obtain ⟨W1, hW1⟩ : ∃ W1, W1 = w.alloc (.cells (entC i s).toArray 84) := ⟨_, rfl⟩
  have hN : NAt b i s W1 := by rw [hW1, hb]; exact NAt.new _ _ _
  have hB1 : Below b w W1 := by rw [hW1]; exact (Below.refl _ w).alloc (by omega) _
  obtain ⟨hc0, hc1⟩ := hN.cell
  rw [← hb]
  have HB1 := Hid.mk hB1
  have HBE := Hid.mk hb
  have HW1 := Hid.mk hW1
  clear hB1 hN hb hW1
  have hE := nm_empty s
  by_cases h0 : i = 0
  · subst h0
    rw [isB_zero] at hf
    have hn : ¬ s.size = 0 := by
      rw [← nm_length]
      intro h
      rw [List.length_eq_zero_iff.1 h] at hf
      simp at hf
    rw [decide_eq_false hn] at hE
    clear hf hn
    go_enter Tryz.func87, Tryz.ntmps87
    go_wp2_with (first
      | (refine wpL_box (.tmp 0) rfl rfl 0 s b W1 HBE.out HW1.out rfl ?_)
      | (go_at_call 99; refine (rname_any _ s hs).mono ?_; rintro e w' ⟨rfl, hw⟩; subst w'))
    go_ret2
    exact ⟨rfl, HB1.out⟩
  · rw [isB_some h0] at hf
    have h0' : (i == 0) = false := by simp [h0]
    clear hE
    cases h1 : fitB 4294967295 i with
    | false =>
      have H1 := Hid.mk h1
      clear h1 hf
      go_enter Tryz.func87, Tryz.ntmps87
      go_wp2_with (first
        | (refine wpL_box (.tmp 0) rfl rfl i s b W1 HBE.out HW1.out rfl ?_)
        | (go_at_call 99; refine (rname_any _ s hs).mono ?_; rintro e w' ⟨rfl, hw⟩; subst w')
        | (go_at_call 84; refine (rfits4_any _ i).mono ?_; rintro e w' ⟨rfl, hw⟩; subst w'; rw [H1.out]))
      go_ret2
      exact ⟨rfl, HB1.out⟩
    | true =>
      rw [h1] at hf
      have H1 := Hid.mk h1
      have H2 : Hid (nameB (nm s) = false) := Hid.mk (by simpa using hf)
      clear h1 hf
      go_enter Tryz.func87, Tryz.ntmps87
      go_wp2_with (first
        | (refine wpL_box (.tmp 0) rfl rfl i s b W1 HBE.out HW1.out rfl ?_)
        | (go_at_call 99; refine (rname_any _ s hs).mono ?_; rintro e w' ⟨rfl, hw⟩; subst w'; rw [H2.out])
        | (go_at_call 84; refine (rfits4_any _ i).mono ?_; rintro e w' ⟨rfl, hw⟩; subst w'; rw [H1.out]))
      go_ret2
      exact ⟨rfl, HB1.out⟩
theorem leL1 (n : Nat) (h : n ≤ 255) : leL (n : Int) 1 = [(n : Int)] := by
  simp [leL, List.range_succ]
  omega
set_option maxRecDepth 100000 in
set_option maxHeartbeats 2000000 in
theorem rpack_yes (w : World) (i : Int) (s : ByteArray) (hf : isB i (nm s) = true) : Calls Tryz.prog 87 #[entV i s] w fun e w' => ∃ v, e = .returned (.tuple #[v, .bool true]) ∧ w'.ownsRow w.heap.size 5 1 v 32 (By (entL i (nm s))) ∧ Below w.heap.size w w' := by
  obtain ⟨hi, hl⟩ := isB_parts hf
  have hs : s.size ≤ 27 := by rw [← nm_length]; exact hl
  obtain ⟨b, hb⟩ : ∃ b, b = w.heap.size := ⟨_, rfl⟩
  obtain ⟨W1, hW1⟩ : ∃ W1, W1 = w.alloc (.cells (entC i s).toArray 84) := ⟨_, rfl⟩
  have hN : NAt b i s W1 := by rw [hW1, hb]; exact NAt.new _ _ _
  have hB1 : Below b w W1 := by rw [hW1]; exact (Below.refl _ w).alloc (by omega) _
  obtain ⟨hc0, hc1⟩ := hN.cell
  rw [← hb]
  have HB1 := Hid.mk hB1
  have HN := Hid.mk hN
  have HBE := Hid.mk hb
  have HW1 := Hid.mk hW1
  clear hB1 hN hb hW1 hl
  have hE := nm_empty s
  by_cases h0 : i = 0
  · subst h0
    rw [isB_zero] at hf
    have hn : nm s = [] := by simpa using hf
    have hz : s.size = 0 := by rw [← nm_length, hn]; rfl
    rw [decide_eq_true hz] at hE
    have hMK := make_run W1 32 (by omega)
    change _ = Result.ok _ (W1.alloc (.cells (By (zeros 32)).toArray 5)) at hMK
    have hR : RAt (W1.alloc (.cells (By (zeros 32)).toArray 5)) W1.heap.size (zeros 32) := blk_new _ _
    have HFIN : Hid ((W1.alloc (.cells (By (zeros 32)).toArray 5)).ownsRow b 5 1 (.slice (some ⟨W1.heap.size, 0, none⟩) 32 32) 32 (By (entL 0 (nm s))) ∧ Below b w (W1.alloc (.cells (By (zeros 32)).toArray 5))) := Hid.mk (by
      rw [hn, entL_none]
      exact ⟨hR.owns (zeros_length 32) (by omega) (Nat.le_of_lt HN.out.lt), HB1.out.alloc (Nat.le_of_lt HN.out.lt) _⟩)
    have HMK := Hid.mk hMK
    clear hMK hR hf hn hz
    go_enter Tryz.func87, Tryz.ntmps87
    go_wp2_with (first
      | (refine wpL_box (.tmp 0) rfl rfl 0 s b W1 HBE.out HW1.out rfl ?_)
      | (at_make; refine wpList_make_known rfl _ _ 26 rfl _ _ _ _ rfl rfl HMK.out ?_))
    go_ret2
    exact ⟨_, rfl, HFIN.out⟩
  · rw [isB_some h0, Bool.and_eq_true] at hf
    have h0' : (i == 0) = false := by simp [h0]
    have H1 := Hid.mk hf.1
    have H2 := Hid.mk hf.2
    clear hE hf
    have HEL : Hid (((([] ++ leL i 4) ++ leL (s.size : Int) 1) ++ nm s) ++ zeros (32 - (0 + 4 + 1 + s.size)) = entL i (nm s)) := Hid.mk (by
      rw [leL1 s.size (by omega), entL, nm_length]
      simp)
    have HQ1 : Hid (Calls Tryz.prog 85 #[.slice none 0 0, .int .i64 i, .int .i64 4] W1.drew fun e w' => ∃ v', e = .returned v' ∧ w'.ownsRow W1.heap.size 5 1 v' (0 + 4) (By ([] ++ leL i 4)) ∧ Below W1.heap.size W1.drew w') := Hid.mk (rput_any W1.drew W1.heap.size (.slice none 0 0) 0 4 [] i (.inl (World.ownsRow_nil _ _ 5 1)) (Nat.le_refl _) (by omega) (by omega) (by omega) hi.1 (by omega))
    have HQ2 : Hid (∀ W v, W1.heap.size ≤ W.heap.size → W.ownsRow W1.heap.size 5 1 v (0 + 4) (By ([] ++ leL i 4)) → Calls Tryz.prog 85 #[v, .int .i64 s.size, .int .i64 1] W fun e w' => ∃ v', e = .returned v' ∧ w'.ownsRow W1.heap.size 5 1 v' (0 + 4 + 1) (By (([] ++ leL i 4) ++ leL (s.size : Int) 1)) ∧ Below W1.heap.size W w') := Hid.mk (fun W v hW ho => rput_any W W1.heap.size v 4 1 _ s.size (.inl ho) hW (by omega) (by omega) (by omega) (by omega) (by omega))
    have HQ3 : Hid (∀ W v, W1.heap.size ≤ W.heap.size → W.ownsRow W1.heap.size 5 1 v (0 + 4 + 1 + s.size) (By ((([] ++ leL i 4) ++ leL (s.size : Int) 1) ++ nm s)) → Calls Tryz.prog 86 #[v, .int .i64 32] W fun e w' => ∃ v', e = .returned v' ∧ w'.ownsRow W1.heap.size 5 1 v' 32 (By (entL i (nm s))) ∧ Below W1.heap.size W w') := Hid.mk (fun W v hW ho => by
      have h := fill_any W W1.heap.size v (0 + 4 + 1 + s.size) 32 _ ho hW (by omega) (by omega)
      rwa [HEL.out] at h)
    go_enter Tryz.func87, Tryz.ntmps87
    go_upto_region 6 with (first
      | (refine wpL_box (.tmp 0) rfl rfl i s b W1 HBE.out HW1.out rfl ?_)
      | (go_at_call 99; refine (rname_any _ s (by omega)).mono ?_; rintro e w' ⟨rfl, hw⟩; subst w'; rw [H2.out])
      | (go_at_call 84; refine (rfits4_any _ i).mono ?_; rintro e w' ⟨rfl, hw⟩; subst w'; rw [H1.out]))
    clear hc0 hc1
    refine wp_region_held_drew (S := fun W => NAt b i s W ∧ Below W1.heap.size W1.drew W) (by kernel_rfl) ⟨HN.out, Below.refl _ _⟩ (fun hH => ?_)
    change wpAnyH Tryz.prog Region.Mode.any _ _ _ 13 _ _ _
    refine takeH 0 30 (.pointer (some ⟨b, 0, none⟩)) rfl (by kernel_rfl) (by kernel_rfl) (by kernel_rfl) (by kernel_rfl) (fun _ _ _ h => h) (by kernel_rfl) (fun w hw => by (try dsimp only at hw); go_simp) hH ?_
    simp only [List.setIfInBounds_toArray, List.set_cons_zero, List.set_cons_succ]
    refine takeH 1 31 (.int .i64 i) rfl (by kernel_rfl) (by kernel_rfl) (by kernel_rfl) (by kernel_rfl) (fun _ _ _ h => h) (by kernel_rfl) (fun w hw => by have h := hw.1.cell; go_simp) hH ?_
    simp only [List.setIfInBounds_toArray, List.set_cons_zero, List.set_cons_succ]
    refine takeH 3 33 (.pointer (some ⟨b, 1, none⟩)) rfl (by kernel_rfl) (by kernel_rfl) (by kernel_rfl) (by kernel_rfl) (fun _ _ _ h => h) (by kernel_rfl) (fun w hw => by (try dsimp only at hw); go_simp) hH ?_
    simp only [List.setIfInBounds_toArray, List.set_cons_zero, List.set_cons_succ]
    refine takeH 4 34 (.string s) rfl (by kernel_rfl) (by kernel_rfl) (by kernel_rfl) (by kernel_rfl) (fun _ _ _ h => h) (by kernel_rfl) (fun w hw => by have h := hw.1.cell; go_simp) hH ?_
    simp only [List.setIfInBounds_toArray, List.set_cons_zero, List.set_cons_succ]
    refine takeH 5 35 (.int .i64 s.size) rfl (by kernel_rfl) (by kernel_rfl) (by kernel_rfl) (by kernel_rfl) (fun _ _ _ h => h) (by kernel_rfl) (fun w hw => by (try dsimp only at hw); go_simp) hH ?_
    simp only [List.setIfInBounds_toArray, List.set_cons_zero, List.set_cons_succ]
    refine takeH 7 37 (.pointer (some ⟨b, 1, none⟩)) rfl (by kernel_rfl) (by kernel_rfl) (by kernel_rfl) (by kernel_rfl) (fun _ _ _ h => h) (by kernel_rfl) (fun w hw => by (try dsimp only at hw); go_simp) hH ?_
    simp only [List.setIfInBounds_toArray, List.set_cons_zero, List.set_cons_succ]
    refine takeH 8 38 (.string s) rfl (by kernel_rfl) (by kernel_rfl) (by kernel_rfl) (by kernel_rfl) (fun _ _ _ h => h) (by kernel_rfl) (fun w hw => by have h := hw.1.cell; go_simp) hH ?_
    simp only [List.setIfInBounds_toArray, List.set_cons_zero, List.set_cons_succ]
    refine stepH_call 2 32 rfl (by kernel_rfl) (by kernel_rfl) (by kernel_rfl) 85 #[.const (.slice none 0 0), .tmp 31, .const (.int .i64 4)] #[26, 3, 3] (by kernel_rfl) (enters_of Tryz.func85 (by kernel_rfl) rfl) #[.slice none 0 0, .int .i64 i, .int .i64 4] (by kernel_rfl) HQ1.out ?_
    rintro e W2 ⟨v1, rfl, ho, hB⟩
    replace hH : NAt b i s W2 ∧ Below W1.heap.size W1.drew W2 := ⟨hH.1.below hB HN.out.lt, hH.2.trans hB⟩
    have HO1 := Hid.mk ho
    clear ho hB
    refine ⟨_, rfl, hH, ?_⟩
    simp only [List.setIfInBounds_toArray, List.set_cons_zero, List.set_cons_succ]
    refine stepH_call 6 36 rfl (by kernel_rfl) (by kernel_rfl) (by kernel_rfl) 85 #[.tmp 32, .tmp 35, .const (.int .i64 1)] #[26, 3, 3] (by kernel_rfl) (enters_of Tryz.func85 (by kernel_rfl) rfl) #[v1, .int .i64 s.size, .int .i64 1] (by kernel_rfl) (HQ2.out _ _ hH.2.size HO1.out) ?_
    rintro e W3 ⟨v2, rfl, ho, hB⟩
    replace hH : NAt b i s W3 ∧ Below W1.heap.size W1.drew W3 := ⟨hH.1.below hB HN.out.lt, hH.2.trans hB⟩
    have HO2 := Hid.mk ho
    clear ho hB
    refine ⟨_, rfl, hH, ?_⟩
    simp only [List.setIfInBounds_toArray, List.set_cons_zero, List.set_cons_succ]
    obtain ⟨v3, W4, hr, ho, hB⟩ := append_str_run W3 W1.heap.size v2 (0 + 4 + 1) _ s HO2.out hH.2.size (by omega)
    replace hH : NAt b i s W4 ∧ Below W1.heap.size W1.drew W4 := ⟨hH.1.below hB HN.out.lt, hH.2.trans hB⟩
    have HO3 := Hid.mk ho
    have HR3 := Hid.mk hr
    clear hr ho hB
    refine stepH_run 9 39 v3 W4 rfl (by kernel_rfl) (by kernel_rfl) (by kernel_rfl) (by
      unfold execOp
      simp only [resolve, invoke, builtin]
      simp [Act.eval, HR3.out]) hH ?_
    simp only [List.setIfInBounds_toArray, List.set_cons_zero, List.set_cons_succ]
    refine stepH_call 10 40 rfl (by kernel_rfl) (by kernel_rfl) (by kernel_rfl) 86 #[.tmp 39, .const (.int .i64 32)] #[26, 3] (by kernel_rfl) (enters_of Tryz.func86 (by kernel_rfl) rfl) #[v3, .int .i64 32] (by kernel_rfl) (HQ3.out _ _ hH.2.size HO3.out) ?_
    rintro e W5 ⟨v4, rfl, ho, hB⟩
    replace hH : NAt b i s W5 ∧ Below W1.heap.size W1.drew W5 := ⟨hH.1.below hB HN.out.lt, hH.2.trans hB⟩
    have HO4 := Hid.mk ho
    clear ho hB
    refine ⟨_, rfl, hH, ?_⟩
    simp only [List.setIfInBounds_toArray, List.set_cons_zero, List.set_cons_succ]
    refine takeH 11 2 (v4) rfl (by kernel_rfl) (by kernel_rfl) (by kernel_rfl) (by kernel_rfl) (fun _ _ _ h => h) (by kernel_rfl) (fun w hw => by kernel_rfl) hH ?_
    simp only [List.setIfInBounds_toArray, List.set_cons_zero, List.set_cons_succ]
    refine takeH 12 3 (.bool true) rfl (by kernel_rfl) (by kernel_rfl) (by kernel_rfl) (by kernel_rfl) (fun _ _ _ h => h) (by kernel_rfl) (fun w hw => by kernel_rfl) hH ?_
    simp only [List.setIfInBounds_toArray, List.set_cons_zero, List.set_cons_succ]
    refine wpAnyH_done (by kernel_rfl) ?_ _
    have HFIN := Hid.mk hH.2
    clear hH
    go_wp2_with fail
    go_ret2
    exact ⟨v4, rfl, owns_base HO4.out (Nat.le_of_lt HN.out.lt), HB1.out.drew.trans (HFIN.out.mono (Nat.le_of_lt HN.out.lt))⟩
end Ent
end Go.Proofs.YtejnmpnioeamhaaGreat
namespace Go.Proofs.YtejnmpnioeamhaaGreat
open Go Go.Proofs Go.RowKit Go.Shelf
namespace Ent
set_option maxRecDepth 100000 in
theorem rread_short (w : World) (ao : Option Addr) (n c : Nat) (hn : n ≠ 32) :
    Calls Tryz.prog 95 #[.slice ao n c] w fun e w' => e = .returned (.tuple #[entV 0 noS, .bool false]) ∧ Below w.heap.size w w' := by
  have h1 : ((n : Int) == 32) = false := by simp; omega
  have h2 : ¬ ((n : Int) = 32) := by omega
  obtain ⟨X, b, hrX, hX, hXB, hXb⟩ := alloc26_any w
  obtain ⟨Y, hrY, hY, hYo⟩ := store26_run (j := 0) (t := noS) hX
  have HRX := Hid.mk hrX
  have HRY := Hid.mk hrY
  have HY := Hid.mk hY
  have HB := Hid.mk (hXB.trans (hYo.below hXB.size (fun k e => by rw [e]; exact hXb)))
  clear hrX hX hXB hrY hY hYo hXb
  go_enter Tryz.func95, Tryz.ntmps95
  go_wp2_with (first
    | (refine wpL_new rfl rfl _ X HRX.out ?_)
    | (refine wpL_build rfl rfl ?_)
    | (refine wpL_store (.tmp 2) (.tmp 11) rfl rfl _ _ Y rfl rfl HRY.out ?_))
  exact bodyPost_ret (results_cell2 Tryz.results95 rfl HY.out) rfl ⟨rfl, HB.out⟩
set_option maxRecDepth 100000 in
theorem rread_big (w : World) (a : Addr) (c : Nat) (xs : List Int) (h : BAt w (some a) 32 xs) (k : Nat) (hk : xs.getD 4 0 = k) (hk1 : 27 < k) (hk2 : k ≤ 255) :
    Calls Tryz.prog 95 #[.slice (some a) 32 c] w fun e w' => e = .returned (.tuple #[entV 0 noS, .bool false]) ∧ Below w.heap.size w w' := by
  obtain ⟨X, b, hrX, hX, hXB, hXb⟩ := alloc26_any w
  obtain ⟨a', e, hc4⟩ := (h.only (Only.of_new (fun _ => False) hXB) (fun _ _ _ h => h)).at 4 (by omega)
  cases e
  rw [hk, add4] at hc4
  obtain ⟨Y, hrY, hY, hYo⟩ := store26_run (j := 0) (t := noS) hX
  have HRX := Hid.mk hrX
  have HRY := Hid.mk hrY
  have HY := Hid.mk hY
  have HB := Hid.mk (hXB.trans (hYo.below hXB.size (fun k e => by rw [e]; exact hXb)))
  clear hrX hX hXB hrY hY hYo hXb h hk
  go_enter Tryz.func95, Tryz.ntmps95
  go_wp2_with (first
    | (refine wpL_new rfl rfl _ X HRX.out ?_)
    | (refine wpL_build rfl rfl ?_)
    | (refine wpL_store (.tmp 2) (.tmp 18) rfl rfl _ _ Y rfl rfl HRY.out ?_))
  exact bodyPost_ret (results_cell2 Tryz.results95 rfl HY.out) rfl ⟨rfl, HB.out⟩
set_option maxRecDepth 100000 in
set_option maxHeartbeats 4000000 in
theorem rread_full (w : World) (a : Addr) (c : Nat) (xs : List Int) (h : BAt w (some a) 32 xs) (hx : ∀ x ∈ xs, 0 ≤ x ∧ x ≤ 255) (hc : 32 ≤ c) (hc2 : c ≤ 9223372036854775807) (k : Nat) (hk : xs.getD 4 0 = k) (hk1 : k ≤ 27) :
    Calls Tryz.prog 95 #[.slice (some a) 32 c] w fun e w' => e = .returned (.tuple #[entV (rdI xs) (rdS xs), .bool (rdB xs)]) ∧ Below w.heap.size w w' := by
  have hlen := h.1
  have HX := Hid.mk hx
  obtain ⟨W1, b, hrX, hX, hXB, hXb⟩ := alloc26_any w
  obtain ⟨B, hBe⟩ : ∃ B, B = w.heap.size := ⟨_, rfl⟩
  rw [← hBe] at hXB hXb
  have HBA : Hid (∀ W, Below B w W → BAt W (some a) 32 xs) := Hid.mk (fun W hB => h.only (Only.of_new (fun _ => False) (by rw [hBe] at hB; exact hB)) (fun _ _ _ h => h))
  rw [← hBe]
  obtain ⟨a', e, hc4⟩ := (HBA.out W1 hXB).at 4 (by omega)
  cases e
  rw [hk, add4] at hc4
  have HRX := Hid.mk hrX
  have HN1 := Hid.mk hX
  have HB1 := Hid.mk hXB
  have HBb := Hid.mk hXb
  have HBs : Hid (B ≤ w.heap.size) := Hid.mk (by omega)
  have HGL : Hid (gotL xs = (xs.drop 5).take k) := Hid.mk (by unfold gotL; rw [hk, Int.toNat_natCast])
  have H29 : Hid (∀ W, Below B w W → Calls Tryz.prog 74 #[.slice (some a) 32 c, .int .i64 0, .int .i64 4] W fun e w' => e = .returned (.int .i64 (gotI xs)) ∧ w' = W) := Hid.mk (fun W hB => by
    have h := rnum_any W a 32 c 0 4 (by omega) (by omega) xs (HBA.out W hB) HX.out (by omega) (by omega)
    rw [List.drop_zero] at h
    exact h)
  have HCV : Hid (∀ W, Below B w W → (convert 26 9 (.slice (some ⟨a.block, a.off + 5, none⟩) k (c - 5))).run Tryz.prog W = .ok (.string (strOfNums (gotL xs))) W) := Hid.mk (fun W hB => conv_bytes W _ _ _ _ (by rw [HGL.out]; exact ((HBA.out W hB).slice 5 (by omega) (by omega)).frontEnt k (by omega)))
  have HK := Hid.mk hk
  clear hrX hX hXB hXb h hx hBe hk
  generalize hS : strOfNums (gotL xs) = S at HCV
  have HSE := Hid.mk hS
  clear hS
  go_enter Tryz.func95, Tryz.ntmps95
  go_upto_region 6 with (refine wpL_new rfl rfl _ W1 HRX.out ?_)
  clear hc4
  go_cut [5] from 19 to 26 (fun v wx => ∃ d, v = .pointer (some ⟨d, 0, none⟩) ∧ NAt d (gotI xs) S wx ∧ NAt b 0 noS wx ∧ Below B w wx ∧ b < d)
  case first =>
    refine wp_region_held_drew (S := Below B w) (by kernel_rfl) HB1.out.drew (fun hH => ?_)
    change wpAnyH Tryz.prog Region.Mode.any _ _ _ 10 _ _ _
    refine takeH 0 19 (.slice (some a) 32 c) rfl (by kernel_rfl) (by kernel_rfl) (by kernel_rfl) (by kernel_rfl) (fun _ _ _ h => h) (by kernel_rfl) (fun w hw => by kernel_rfl) hH ?_
    simp only [List.setIfInBounds_toArray, List.set_cons_zero, List.set_cons_succ]
    refine takeH 2 21 (.slice (some a) 32 c) rfl (by kernel_rfl) (by kernel_rfl) (by kernel_rfl) (by kernel_rfl) (fun _ _ _ h => h) (by kernel_rfl) (fun w hw => by kernel_rfl) hH ?_
    simp only [List.setIfInBounds_toArray, List.set_cons_zero, List.set_cons_succ]
    refine takeH 3 22 (.int .i64 k) rfl (by kernel_rfl) (by kernel_rfl) (by kernel_rfl) (by kernel_rfl) (fun _ _ _ h => h) (by kernel_rfl) (fun w hw => by kernel_rfl) hH ?_
    simp only [List.setIfInBounds_toArray, List.set_cons_zero, List.set_cons_succ]
    refine takeH 4 23 (.int .i64 (5 + k)) rfl (by kernel_rfl) (by kernel_rfl) (by kernel_rfl) (by kernel_rfl) (fun _ _ _ h => h) (by kernel_rfl) (fun w hw => by (have e : IntKind.i64.wrap (5 + (k : Int)) = 5 + k := by rw [IntKind.wrap_i64]; omega); go_simp) hH ?_
    simp only [List.setIfInBounds_toArray, List.set_cons_zero, List.set_cons_succ]
    refine takeH 5 24 (.slice (some ⟨a.block, a.off + 5, none⟩) k (c - 5)) rfl (by kernel_rfl) (by kernel_rfl) (by kernel_rfl) (by kernel_rfl) (fun _ _ _ h => h) (by kernel_rfl) (fun w hw => by (have e : (5 + (k : Int)).toNat - 5 = k := by omega); go_simp; rw [if_pos (by omega), if_pos (by omega), if_neg (by omega)]) hH ?_
    simp only [List.setIfInBounds_toArray, List.set_cons_zero, List.set_cons_succ]
    refine takeH 6 25 (.string S) rfl (by kernel_rfl) (by kernel_rfl) (by kernel_rfl) (by kernel_rfl) (fun _ _ _ h => h) (by kernel_rfl) (fun w hw => by exact exec_convert (x := .tmp 24) rfl (by kernel_rfl) (HCV.out _ hw)) hH ?_
    simp only [List.setIfInBounds_toArray, List.set_cons_zero, List.set_cons_succ]
    have HN : Hid (NAt b 0 noS W1.drew) := HN1
    refine stepH_two 1 8 (by kernel_rfl) ?_ ?_
    · refine opH_call 1 20 rfl (by kernel_rfl) (by kernel_rfl) 74 #[.tmp 19, .const (.int .i64 0), .const (.int .i64 4)] #[26, 3, 3] (by kernel_rfl) (enters_of Tryz.func74 (by kernel_rfl) rfl) #[.slice (some a) 32 c, .int .i64 0, .int .i64 4] (by kernel_rfl) (H29.out _ hH) ?_
      rintro e w' ⟨rfl, hw⟩
      subst w'
      refine ⟨_, rfl, hH, ?_⟩
      simp only [List.setIfInBounds_toArray, List.set_cons_zero, List.set_cons_succ]
      refine takeH 7 26 (entV (gotI xs) S) rfl (by kernel_rfl) (by kernel_rfl) (by kernel_rfl) (by kernel_rfl) (fun _ _ _ h => h) (by kernel_rfl) (fun w hw => by exact exec_build26two (x := .tmp 20) (y := .tmp 25) rfl (by kernel_rfl) (by kernel_rfl)) hH ?_
      simp only [List.setIfInBounds_toArray, List.set_cons_zero, List.set_cons_succ]
      obtain ⟨W3, d, hr, hD, hB, hd⟩ := alloc26_any W1.drew
      have hbd : b < d := Nat.lt_of_lt_of_le HN.out.lt hd
      replace HN := Hid.mk (HN.out.below hB HN.out.lt)
      have HD := Hid.mk hD
      have hS' := hH.trans (hB.mono (Nat.le_trans HBs.out hH.size))
      refine stepH_run 8 5 (.pointer (some ⟨d, 0, none⟩)) W3 rfl (by kernel_rfl) (by kernel_rfl) (by kernel_rfl) (exec_alloc rfl hr) hS' ?_
      clear hH hr hD hB hd
      have hH := hS'
      clear hS'
      simp only [List.setIfInBounds_toArray, List.set_cons_zero, List.set_cons_succ]
      obtain ⟨W4, hr, hD, ho⟩ := store26_run (j := gotI xs) (t := S) HD.out
      have hS2 : Below B w W4 := hH.trans (ho.below (Nat.le_trans HBs.out hH.size) (fun k e => by rw [e]; have := HBb.out; omega))
      have hN2 := HN.out.only ho (by omega)
      have HFIN : Hid (NAt d (gotI xs) S W4 ∧ NAt b 0 noS W4 ∧ Below B w W4 ∧ b < d) := Hid.mk ⟨hD, hN2, hS2, hbd⟩
      have HR := Hid.mk hr
      clear hD ho hr hN2
      refine stepH_one 9 (by kernel_rfl) ?_
      refine opH_store 9 W4 rfl (by kernel_rfl) (by kernel_rfl) (exec_store (p := .tmp 5) (x := .tmp 26) rfl (by kernel_rfl) (by kernel_rfl) HR.out) hS2 ?_
      refine wpAnyH_done (by kernel_rfl) ?_ _
      clear hH hS2 hbd HR
      go_wp2_with fail
      go_meet
      case rel => exact ⟨d, rfl, HFIN.out⟩
    · obtain ⟨W3, d, hr, hD, hB, hd⟩ := alloc26_any W1.drew
      have hbd : b < d := Nat.lt_of_lt_of_le HN.out.lt hd
      replace HN := Hid.mk (HN.out.below hB HN.out.lt)
      have HD := Hid.mk hD
      have hS' := hH.trans (hB.mono (Nat.le_trans HBs.out hH.size))
      refine opH_run 8 5 (.pointer (some ⟨d, 0, none⟩)) W3 rfl (by kernel_rfl) (by kernel_rfl) (exec_alloc rfl hr) hS' ?_
      clear hH hr hD hB hd
      have hH := hS'
      clear hS'
      simp only [List.setIfInBounds_toArray, List.set_cons_zero, List.set_cons_succ]
      refine stepH_call 1 20 rfl (by kernel_rfl) (by kernel_rfl) (by kernel_rfl) 74 #[.tmp 19, .const (.int .i64 0), .const (.int .i64 4)] #[26, 3, 3] (by kernel_rfl) (enters_of Tryz.func74 (by kernel_rfl) rfl) #[.slice (some a) 32 c, .int .i64 0, .int .i64 4] (by kernel_rfl) (H29.out _ hH) ?_
      rintro e w' ⟨rfl, hw⟩
      subst w'
      refine ⟨_, rfl, hH, ?_⟩
      simp only [List.setIfInBounds_toArray, List.set_cons_zero, List.set_cons_succ]
      refine takeH 7 26 (entV (gotI xs) S) rfl (by kernel_rfl) (by kernel_rfl) (by kernel_rfl) (by kernel_rfl) (fun _ _ _ h => h) (by kernel_rfl) (fun w hw => by exact exec_build26two (x := .tmp 20) (y := .tmp 25) rfl (by kernel_rfl) (by kernel_rfl)) hH ?_
      simp only [List.setIfInBounds_toArray, List.set_cons_zero, List.set_cons_succ]
      obtain ⟨W4, hr, hD, ho⟩ := store26_run (j := gotI xs) (t := S) HD.out
      have hS2 : Below B w W4 := hH.trans (ho.below (Nat.le_trans HBs.out hH.size) (fun k e => by rw [e]; have := HBb.out; omega))
      have hN2 := HN.out.only ho (by omega)
      have HFIN : Hid (NAt d (gotI xs) S W4 ∧ NAt b 0 noS W4 ∧ Below B w W4 ∧ b < d) := Hid.mk ⟨hD, hN2, hS2, hbd⟩
      have HR := Hid.mk hr
      clear hD ho hr hN2
      refine stepH_one 9 (by kernel_rfl) ?_
      refine opH_store 9 W4 rfl (by kernel_rfl) (by kernel_rfl) (exec_store (p := .tmp 5) (x := .tmp 26) rfl (by kernel_rfl) (by kernel_rfl) HR.out) hS2 ?_
      refine wpAnyH_done (by kernel_rfl) ?_ _
      clear hH hS2 hbd HR
      go_wp2_with fail
      go_meet
      case rel => exact ⟨d, rfl, HFIN.out⟩
  case rest =>
    obtain ⟨d, rfl, hD, hN, hS, hbd⟩ := hcut
    have HRD : Hid (rdB xs = (isB (gotI xs) (gotL xs) && eqB (entL (gotI xs) (gotL xs)) xs)) := Hid.mk (by unfold rdB; rw [hlen, HK.out]; simp; omega)
    have HBX := Hid.mk (HBA.out wc hS)
    have HNM : Hid (nm S = gotL xs) := Hid.mk (by rw [← HSE.out]; exact nm_str _ (got_bound xs HX.out))
    have hsz : S.size ≤ 27 := by rw [← nm_length, HNM.out, HGL.out]; simp; omega
    rw [← HNM.out] at HRD
    obtain ⟨i, hie⟩ : ∃ i, i = gotI xs := ⟨_, rfl⟩
    rw [← hie] at hD HRD
    have HLE := Hid.mk hie
    have HD := Hid.mk hD
    have HN := Hid.mk hN
    have HFIN : Hid (∀ W5 Y : World, Below wc.heap.size wc W5 → Only (fun k => k = b) W5 Y → Below B w Y) := Hid.mk (fun W5 Y h1 h2 => (hS.trans (h1.mono (Nat.le_trans HBs.out hS.size))).trans (h2.below (Nat.le_trans (Nat.le_trans HBs.out hS.size) h1.size) (fun k e => by rw [e]; exact HBb.out)))
    have HSZ := Hid.mk hsz
    clear H29 HCV HBA HB1 HN1 HRX hie hD hN hS hbd hsz
    cases hf : isB i (nm S) with
    | false =>
      have HP := Hid.mk (rpack_no wc i S (by have := HSZ.out; omega) hf)
      have HRF := Hid.mk (show rdB xs = false by rw [HRD.out, hf]; rfl)
      have HR := Hid.mk (rd_no HRF.out)
      clear hf HRD
      go_wp2_with (first
        | (refine wpL_load (.tmp 5) rfl rfl d i S rfl HD.out ?_)
        | (go_at_call 87; refine HP.out.mono ?_; rintro e w5 ⟨rfl, hB5⟩; obtain ⟨Y, hrY, hY, hYo⟩ := store26_run (j := 0) (t := noS) (HN.out.below hB5 HN.out.lt); have HB5 := Hid.mk (HFIN.out _ _ hB5 hYo); have HY := Hid.mk hY; have HRY := Hid.mk hrY; clear hB5 hrY hY hYo)
        | (refine wpL_build rfl rfl ?_)
        | (refine wpL_store (.tmp 2) (.tmp 41) rfl rfl _ _ Y rfl rfl HRY.out ?_))
      exact bodyPost_ret (results_cell2 Tryz.results95 rfl HY.out) rfl ⟨by rw [HR.out.1, HR.out.2.1, HRF.out]; rfl, HB5.out⟩
    | true =>
      have HP := Hid.mk (rpack_yes wc i S hf)
      have hpl := isB_parts hf
      have HEB := Hid.mk (entL_bound i (nm S) hpl.2 (nm_bound S))
      clear hpl
      have HBY : Hid (∀ W v, Below wc.heap.size wc W → W.ownsRow wc.heap.size 5 1 v 32 (By (entL i (nm S))) → ∃ ao c', v = .slice ao 32 c' ∧ BAt W ao 32 (entL i (nm S)) ∧ BAt W (some a) 32 xs) := Hid.mk (fun W v hB ho => by
        obtain ⟨ao, c', rfl, h1, -⟩ := owns_BAt ho
        exact ⟨ao, c', rfl, h1, HBX.out.only (Only.of_new (fun _ => False) hB) (fun _ _ _ h => h)⟩)
      have HSQ := Hid.mk (str_eqB (entL i (nm S)) xs HEB.out HX.out)
      obtain ⟨S1, hS1⟩ : ∃ S1, S1 = strOfNums (entL i (nm S)) := ⟨_, rfl⟩
      obtain ⟨S2, hS2⟩ : ∃ S2, S2 = strOfNums xs := ⟨_, rfl⟩
      rw [← hS1, ← hS2] at HSQ
      have HS1 := Hid.mk hS1
      have HS2 := Hid.mk hS2
      clear hS1 hS2
      cases heq : eqB (entL i (nm S)) xs with
      | false =>
        have HRF := Hid.mk (show rdB xs = false by rw [HRD.out, hf, heq]; rfl)
        have HR := Hid.mk (rd_no HRF.out)
        rw [heq] at HSQ
        clear hf HRD heq
        go_wp2_with (first
          | (refine wpL_load (.tmp 5) rfl rfl d i S rfl HD.out ?_)
          | (go_at_call 87; refine HP.out.mono ?_; rintro e w5 ⟨v, rfl, ho, hB5⟩; obtain ⟨ao, c', rfl, hb1, hb2⟩ := HBY.out _ _ hB5 ho; obtain ⟨Y, hrY, hY, hYo⟩ := store26_run (j := 0) (t := noS) (HN.out.below hB5 HN.out.lt); have HC1 := Hid.mk hb1; have HC2 := Hid.mk hb2; have HB5 := Hid.mk (HFIN.out _ _ hB5 hYo); have HY := Hid.mk hY; have HRY := Hid.mk hrY; clear hB5 hrY hY hYo ho hb1 hb2)
          | (refine wpL_conv (.tmp 35) rfl rfl ao 32 c' _ rfl HC1.out S1 HS1.out ?_)
          | (refine wpL_conv (.tmp 37) rfl rfl (some a) 32 c _ rfl HC2.out S2 HS2.out ?_)
          | (refine wpL_strneq (.tmp 36) (.tmp 38) 9 rfl rfl S1 S2 false HSQ.out rfl rfl ?_)
          | (refine wpL_build rfl rfl ?_)
          | (refine wpL_store (.tmp 2) (.tmp 41) rfl rfl _ _ Y rfl rfl HRY.out ?_))
        exact bodyPost_ret (results_cell2 Tryz.results95 rfl HY.out) rfl ⟨by rw [HR.out.1, HR.out.2.1, HRF.out]; rfl, HB5.out⟩
      | true =>
        have HRF := Hid.mk (show rdB xs = true by rw [HRD.out, hf, heq]; rfl)
        have HR := Hid.mk (rd_yes HRF.out)
        rw [heq] at HSQ
        clear hf HRD heq
        go_wp2_with (first
          | (refine wpL_load (.tmp 5) rfl rfl d i S rfl HD.out ?_)
          | (go_at_call 87; refine HP.out.mono ?_; rintro e w5 ⟨v, rfl, ho, hB5⟩; obtain ⟨ao, c', rfl, hb1, hb2⟩ := HBY.out _ _ hB5 ho; obtain ⟨Y, hrY, hY, hYo⟩ := store26_run (j := i) (t := S) (HN.out.below hB5 HN.out.lt); have HC1 := Hid.mk hb1; have HC2 := Hid.mk hb2; have HD5 := Hid.mk (HD.out.below hB5 HD.out.lt); clear HD; have HB5 := Hid.mk (HFIN.out _ _ hB5 hYo); have HY := Hid.mk hY; have HRY := Hid.mk hrY; clear hB5 hrY hY hYo ho hb1 hb2)
          | (refine wpL_conv (.tmp 35) rfl rfl ao 32 c' _ rfl HC1.out S1 HS1.out ?_)
          | (refine wpL_conv (.tmp 37) rfl rfl (some a) 32 c _ rfl HC2.out S2 HS2.out ?_)
          | (refine wpL_strneq (.tmp 36) (.tmp 38) 9 rfl rfl S1 S2 true HSQ.out rfl rfl ?_)
          | (refine wpL_load (.tmp 5) rfl rfl d i S rfl HD5.out ?_)
          | (refine wpL_store (.tmp 2) (.tmp 42) rfl rfl _ _ Y rfl rfl HRY.out ?_))
        exact bodyPost_ret (results_cell2 Tryz.results95 rfl HY.out) rfl ⟨by rw [HR.out.1, HR.out.2.1, HRF.out, HLE.out, HSE.out]; rfl, HB5.out⟩
set_option maxRecDepth 100000 in
theorem rread_any (w : World) (ao : Option Addr) (n c : Nat) (xs : List Int) (h : BAt w ao n xs) (hx : ∀ x ∈ xs, 0 ≤ x ∧ x ≤ 255) (hc : n ≤ c) (hc2 : c ≤ 9223372036854775807) :
    Calls Tryz.prog 95 #[.slice ao n c] w fun e w' => e = .returned (.tuple #[entV (rdI xs) (rdS xs), .bool (rdB xs)]) ∧ Below w.heap.size w w' := by
  by_cases hn : n = 32
  · subst hn
    obtain ⟨a, rfl, -⟩ := h.at 0 (by omega)
    have hb := getD_bound xs hx 4
    obtain ⟨k, hk⟩ : ∃ k : Nat, xs.getD 4 0 = k := ⟨(xs.getD 4 0).toNat, by omega⟩
    by_cases hk1 : k ≤ 27
    · exact rread_full w a c xs h hx hc hc2 k hk hk1
    · have hf : rdB xs = false := by unfold rdB; rw [hk, decide_eq_false (show ¬ ((k : Int) ≤ 27) by omega)]; simp
      rw [(rd_no hf).1, (rd_no hf).2.1, hf]
      exact rread_big w a c xs h k hk (by omega) (by omega)
  · have hf : rdB xs = false := by unfold rdB; rw [h.1, decide_eq_false hn]; rfl
    rw [(rd_no hf).1, (rd_no hf).2.1, hf]
    exact rread_short w ao n c hn
end Ent
end Go.Proofs.YtejnmpnioeamhaaGreat
namespace Go.Proofs.YtejnmpnioeamhaaGreat
open Go Go.Proofs Go.RowKit Go.Shelf
namespace Ent
theorem _root_.Go.Proofs.YtejnmpnioeamhaaGreat.BAt.nilEnt (w : World) : BAt w none 0 [] := ⟨rfl, fun h => absurd h (Nat.lt_irrefl 0)⟩
set_option maxRecDepth 100000 in
/-- A new variable for an entry. -/
theorem var26 (W : World) (i : Int) (s : ByteArray) : ∃ X Y d, (Instr.alloc 84 true (.tuple #[])).run Tryz.prog W = .ok (.pointer (some ⟨d, 0, none⟩)) X ∧ (Instr.storeAt 84 (.pointer (some ⟨d, 0, none⟩)) (entV i s)).run Tryz.prog X = .ok () Y ∧ NAt d i s Y ∧ Below W.heap.size W Y ∧ W.heap.size ≤ d := by
  obtain ⟨X, d, hrX, hX, hXB, hXb⟩ := alloc26_any W
  obtain ⟨Y, hrY, hY, hYo⟩ := store26_run (j := i) (t := s) hX
  exact ⟨X, Y, d, hrX, hrY, hY, hXB.trans (hYo.below hXB.size (fun k e => by rw [e]; exact hXb)), hXb⟩
set_option maxRecDepth 100000 in
theorem rpack_yes2 (w : World) (i : Int) (s : ByteArray) (hf : isB i (nm s) = true) : Calls Tryz.prog 87 #[entV i s] w fun e w' => ∃ ao c, e = .returned (.tuple #[.slice ao 32 c, .bool true]) ∧ BAt w' ao 32 (entL i (nm s)) ∧ Below w.heap.size w w' := by
  refine (rpack_yes w i s hf).mono ?_
  rintro e w' ⟨v, rfl, ho, hB⟩
  obtain ⟨ao, c, rfl, hb, -⟩ := owns_BAt ho
  exact ⟨ao, c, rfl, hb, hB⟩
end Ent
end Go.Proofs.YtejnmpnioeamhaaGreat
namespace Go.Proofs.YtejnmpnioeamhaaGreat
open Go Go.Proofs Go.RowKit Go.Shelf
namespace Ent
/-- Entries as cells, two each. -/
def Ey (L : List (Int × ByteArray)) : List Value := L.flatMap (fun e => entC e.1 e.2)
def noE : Int × ByteArray := (0, noS)
theorem Ey_cons (e : Int × ByteArray) (L : List (Int × ByteArray)) : Ey (e :: L) = .int .i64 e.1 :: .string e.2 :: Ey L := rfl
theorem Ey_append (L M : List (Int × ByteArray)) : Ey (L ++ M) = Ey L ++ Ey M := by simp [Ey]
theorem Ey_length (L : List (Int × ByteArray)) : (Ey L).length = L.length * 2 := by
  induction L with
  | nil => rfl
  | cons e L ih => rw [Ey_cons]; simp [ih]; omega
set_option maxRecDepth 100000 in
theorem Ey_get (L : List (Int × ByteArray)) : ∀ (k : Nat), k < L.length → (Ey L)[k * 2]? = some (.int .i64 (L.getD k noE).1) ∧ (Ey L)[k * 2 + 1]? = some (.string (L.getD k noE).2) := by
  induction L with
  | nil => intro k h; simp at h
  | cons e L ih =>
    intro k h
    cases k with
    | zero => exact ⟨rfl, rfl⟩
    | succ k =>
      have := ih k (by simpa using h)
      rw [Ey_cons, show (k + 1) * 2 = k * 2 + 1 + 1 by omega]
      simpa using this
theorem Ey_one (L : List (Int × ByteArray)) : ∀ u ∈ Ey L, u.oneCell' = true := by
  intro u hu
  obtain ⟨e, _, h⟩ := List.mem_flatMap.1 hu
  exact entC_one _ _ u h
/-- A slice of entries as it lies in a world. -/
def EAt (W : World) (ao : Option Addr) (n : Nat) (L : List (Int × ByteArray)) : Prop :=
  L.length = n ∧ (0 < n → ∃ a, ao = some a ∧ a.block < W.heap.size ∧ ∀ k, k < n → W.cell? (a.add (k * 2)) = some (.int .i64 (L.getD k noE).1) ∧ W.cell? (a.add (k * 2 + 1)) = some (.string (L.getD k noE).2))
set_option maxRecDepth 100000 in
theorem EAt.only {S : Nat → Prop} {W W' : World} {ao : Option Addr} {n : Nat} {L : List (Int × ByteArray)} (h : EAt W ao n L) (ho : Only S W W') (hS : ∀ a, ao = some a → a.block < W.heap.size → ¬ S a.block) : EAt W' ao n L := by
  refine ⟨h.1, fun hn => ?_⟩
  obtain ⟨a, e, hlt, hc⟩ := h.2 hn
  refine ⟨a, e, Nat.lt_of_lt_of_le hlt ho.size, fun i hi => ?_⟩
  have hb := ho.block _ hlt (hS a e hlt)
  have e1 : W'.cell? (a.add (i * 2)) = W.cell? (a.add (i * 2)) := World.cell?_of_block (by rw [add_block]; exact hb)
  have e2 : W'.cell? (a.add (i * 2 + 1)) = W.cell? (a.add (i * 2 + 1)) := World.cell?_of_block (by rw [add_block]; exact hb)
  rw [e1, e2]
  exact hc i hi
theorem EAt.below {W W' : World} {ao : Option Addr} {n : Nat} {L : List (Int × ByteArray)} (h : EAt W ao n L) (hB : Below W.heap.size W W') : EAt W' ao n L := h.only (Only.of_new (fun _ => False) hB) (fun _ _ _ h => h)
theorem add_add (a : Addr) (i j : Nat) : (a.add i).add j = a.add (i + j) := by
  unfold Addr.add
  by_cases h1 : i = 0
  · subst h1; simp
  · by_cases h2 : j = 0
    · subst h2; simp [h1]
    · simp [h1, h2, Nat.add_assoc]
set_option maxRecDepth 100000 in
theorem EAt.at {W : World} {ao : Option Addr} {n : Nat} {L : List (Int × ByteArray)} (h : EAt W ao n L) (k : Nat) (hk : k < n) : ∃ a, ao = some a ∧ a.block < W.heap.size ∧ (Instr.loadAt 84 (.pointer (some (a.add (k * 2))))).run Tryz.prog W = .ok (entV (L.getD k noE).1 (L.getD k noE).2) W ∧ W.cell? (a.add (k * 2 + 1)) = some (.string (L.getD k noE).2) := by
  obtain ⟨a, e, hlt, hc⟩ := h.2 (by omega)
  obtain ⟨h1, h2⟩ := hc k hk
  exact ⟨a, e, hlt, load26_at (by rw [add_add]; exact h1) (by rw [add_add]; exact h2), h2⟩
theorem EAt.nilEnt (W : World) (ao : Option Addr) : EAt W ao 0 [] := ⟨rfl, fun h => absurd h (Nat.lt_irrefl 0)⟩
set_option maxRecDepth 100000 in
theorem owns_EAt {w : World} {base : Nat} {v : Value} {n : Nat} {L : List (Int × ByteArray)} (h : w.ownsRow base 84 2 v n (Ey L)) : ∃ ao c, v = .slice ao n c ∧ EAt w ao n L ∧ (∀ a, ao = some a → base ≤ a.block ∧ v.ownBlock = some a.block) ∧ n ≤ c ∧ c ≤ 9223372036854775807 := by
  obtain ⟨h1, h2⟩ := h
  rw [Ey_length] at h1
  have hl : L.length = n := by omega
  rcases h2 with ⟨rfl, rfl⟩ | ⟨g, cap, cur, rfl, hg, hh, hnc, hm, hsz, ht⟩
  · exact ⟨none, 0, rfl, ⟨hl, fun h => by omega⟩, fun a e => (by cases e), Nat.le_refl _, by omega⟩
  · refine ⟨_, _, rfl, ⟨hl, fun _ => ⟨_, rfl, lt_of_block hh, fun k hk => ?_⟩⟩, fun a e => (by cases e; exact ⟨hg, rfl⟩), hnc, by unfold maxLen at hm; omega⟩
    have get : ∀ j, j < n * 2 → cur[j]? = (Ey L)[j]? := fun j hj => by
      rw [← Array.getElem?_toList, ← ht, List.getElem?_take, if_pos hj]
    rw [add_at, add_at, blk_cell hh, blk_cell hh, Nat.zero_add, Nat.zero_add, get _ (by omega), get _ (by omega)]
    exact Ey_get L k (by omega)
set_option maxRecDepth 100000 in
/-- []api.Entry of one: its cells. -/
theorem exec_one26 {ev : Operand → Value} {oi : Oper} {x : Operand} {i : Int} {s : ByteArray} {W : World} (ho : oi.op = .buildSlice 39 1 #[(0, x)]) (hx : ev x = entV i s) : (execOp ev oi).run Tryz.prog W = .ok (.value (.slice (some ⟨W.heap.size, 0, none⟩) 1 1)) (W.alloc (.cells (entC i s).toArray 84)) := by
  obtain ⟨i0, hi, hz0, hz1, hz2⟩ := info26p
  unfold execOp
  rw [ho]
  simp only [hx, List.map_toArray, List.map_cons, List.map_nil]
  simp [Instr.buildSlice, run_underlying Tryz.underlying39, zeroValue, typeInfo, hi, hz0, hz1, newRow, entV, Value.cells, entC, Instr.fill, sizeOf]
  rw [show Array.range 2 = #[0, 1] from by decide]
  simp
section
variable {w : World} {ops : Array Oper} {rest : List Oper} {o : Oper} {a : Act} {Q : Exit → Act → World → Prop}
set_option maxRecDepth 100000 in
theorem wpL_one (x : Operand) (ho : o.op = .buildSlice 39 1 #[(0, x)]) (hw : Region.wanted o (yielded ops a.tmps) = true) (i : Int) (s : ByteArray) (q : Nat) (W1 : World) (hq : q = w.heap.size) (hW : W1 = w.alloc (.cells (entC i s).toArray 84)) (hx : a.eval x = entV i s) (h : wpList Tryz.prog ops Q rest (a.put o.dst (.slice (some ⟨q, 0, none⟩) 1 1)) W1) : wpList Tryz.prog ops Q (o :: rest) a w := by
  subst hq hW
  exact wpList_known hw _ _ (exec_one26 ho hx) h
end
set_option maxRecDepth 100000 in
/-- append(l, e). -/
theorem appende_run (W : World) (B : Nat) (v : Value) (n : Nat) (L : List (Int × ByteArray)) (i : Int) (s : ByteArray) (hown : W.ownsRow B 84 2 v n (Ey L)) (hB : B ≤ W.heap.size) (hn : n ≤ 16777216) :
    ∃ v' W', (Builtin.append_ #[39, 39] 39 #[v, .slice (some ⟨W.heap.size, 0, none⟩) 1 1]).run Tryz.prog (W.alloc (.cells (entC i s).toArray 84)) = .ok v' W' ∧ W'.ownsRow B 84 2 v' (n + 1) (Ey (L ++ [(i, s)])) ∧ Below B W W' := by
  obtain ⟨i0, hi, hz0, hz1, hz2⟩ := info26p
  have hnew := blk_new W (.cells (entC i s).toArray 84)
  obtain ⟨v3, W3, hr, hown3, hg3, _⟩ := run_append_own (P := Tryz.prog) (W.alloc (.cells (entC i s).toArray 84)) B 39 39 84 i0 (entV 0 noS) 2 24 Tryz.underlying39 hi hz0 hz1 hz2 rfl (by decide) v n (Ey L) (hown.alloc _) ⟨W.heap.size, 0, none⟩ 1 1 (entC i s) rfl (fun j u hj => by
    match j, hj with
    | 0, hj => cases hj; rw [add_at, blk_cell hnew]; rfl
    | 1, hj => cases hj; rw [add_at, blk_cell hnew]; rfl) (entC_one i s) (by unfold maxLen; omega) (by omega) (by simp; omega)
  have e : Ey L ++ entC i s = Ey (L ++ [(i, s)]) := by rw [Ey_append]; simp [Ey]
  rw [e] at hown3
  refine ⟨v3, W3, hr, hown3, ?_⟩
  refine ((Below.refl _ W).alloc hB _).grown hg3 (by simp; omega) (fun k hk => ?_)
  exact (hown.lt k hk).1
set_option maxRecDepth 100000 in
/-- copy(b[o:], c). -/
theorem copy_run (W : World) (g o dLen dCap : Nat) (xs ys : List Int) (ao : Option Addr) (n c : Nat) (h : RAt W g xs) (hb : BAt W ao n ys) (hnone : ao = none → n = 0 ∧ c = 0) (hl : o + dLen ≤ xs.length) :
    ∃ W', (Builtin.copy_ #[26, 26] 3 #[.slice (some ⟨g, o, none⟩) dLen dCap, .slice ao n c]).run Tryz.prog W = .ok (.int .i64 (min n dLen : Nat)) W' ∧ RAt W' g (splice xs o (ys.take (min n dLen))) ∧ Only (fun k => k = g) W W' := by
  obtain ⟨i0, hi, hz0, hz1, hz2⟩ := info5p
  cases ao with
  | none =>
    obtain ⟨rfl, rfl⟩ := hnone rfl
    refine ⟨W, ?_, ?_, Only.refl _ _⟩
    · rw [run_copy_nil (P := Tryz.prog) W 26 26 3 5 ⟨g, o, none⟩ dLen dCap Tryz.underlying26 (by rw [hi]; simp)]
      simp
      rfl
    · simpa [splice] using h
  | some a =>
    have hyl := hb.1
    have hcl : (By (ys.take (min n dLen))).length = min n dLen := by rw [By_length, List.length_take]; omega
    have hr := run_copy_row (P := Tryz.prog) W 26 26 3 5 g o dLen dCap a n c (By xs).toArray 5 (By (ys.take (min n dLen))) Tryz.underlying26 (by rw [hi]; simp [hz1]) h hcl (fun j u hj => by
      have hjl := (List.getElem?_eq_some_iff.1 hj).1
      rw [By_length] at hjl
      rw [By_get _ j hjl] at hj
      have hj2 : j < min n dLen := by simp at hjl; omega
      obtain ⟨a', e, hc⟩ := hb.at j (by omega)
      cases e
      rw [hc]
      have e : (ys.take (min n dLen)).getD j 0 = ys.getD j 0 := by simp only [List.getD, List.getElem?_take, if_pos hj2]
      rwa [e] at hj) (by rw [hcl]; simp [By_length]; omega) (By_one _)
    refine ⟨W.setRow g (By (splice xs o (ys.take (min n dLen)))).toArray, hr.trans ?_, setRow_heap W g _ _ 5 _ h, (Only.refl (fun k => k = g) W).setRow (.inl rfl) _⟩
    rw [hcl]
    have e : (By xs).toArray.toList.take o ++ By (ys.take (min n dLen)) ++ (By xs).toArray.toList.drop (o + min n dLen) = By (splice xs o (ys.take (min n dLen))) := by
      have : (ys.take (min n dLen)).length = min n dLen := by simp; omega
      unfold splice
      rw [this]
      simp [By]
    rw [e]
    rfl
set_option maxRecDepth 100000 in
/-- append(b, c...). -/
theorem append_row_run (W : World) (B : Nat) (v : Value) (n : Nat) (xs : List Int) (hown : W.ownsRow B 5 1 v n (By xs)) (hB : B ≤ W.heap.size) (a : Addr) (m c : Nat) (ys : List Int) (hb : BAt W (some a) m ys) (hn : n + m ≤ 16777216) :
    ∃ v' W', (Builtin.append_ #[26, 26] 26 #[v, .slice (some a) m c]).run Tryz.prog W = .ok v' W' ∧ W'.ownsRow B 5 1 v' (n + m) (By (xs ++ ys)) ∧ W.grownBy W' v.ownBlock := by
  obtain ⟨i0, hi, hz0, hz1, hz2⟩ := info5p
  obtain ⟨v3, W3, hr, hown3, hg3, _⟩ := run_append_own (P := Tryz.prog) W B 26 26 5 i0 (.int .u8 0) 1 1 Tryz.underlying26 hi hz0 hz1 hz2 rfl (by decide) v n (By xs) hown a m c (By ys) (by rw [By_length, hb.1, Nat.mul_one]) (fun j u hj => by
      have hjl := (List.getElem?_eq_some_iff.1 hj).1
      rw [By_length] at hjl
      rw [By_get ys j hjl] at hj
      obtain ⟨a', e, hc⟩ := hb.at j (by rw [← hb.1]; exact hjl)
      cases e
      rw [hc]
      exact hj) (By_one ys) (by unfold maxLen; omega) (by omega) hB
  have e : By xs ++ By ys = By (xs ++ ys) := by simp [By]
  rw [e] at hown3
  exact ⟨v3, W3, hr, hown3, hg3⟩
/-! Blocks of entries: numbers alone. -/
/-- May all of them be? -/
def allB (L : List (Int × ByteArray)) : Bool := L.all (fun e => isB e.1 (nm e.2))
/-- Their bytes, one behind the other. -/
def catL (L : List (Int × ByteArray)) : List Int := L.flatMap (fun e => entL e.1 (nm e.2))
theorem allB_snoc (L : List (Int × ByteArray)) (e : Int × ByteArray) : allB (L ++ [e]) = (allB L && isB e.1 (nm e.2)) := by simp [allB]
theorem catL_snoc (L : List (Int × ByteArray)) (e : Int × ByteArray) : catL (L ++ [e]) = catL L ++ entL e.1 (nm e.2) := by simp [catL]
set_option maxRecDepth 100000 in
theorem catL_length (L : List (Int × ByteArray)) (h : allB L = true) : (catL L).length = 32 * L.length := by
  induction L with
  | nil => rfl
  | cons e L ih =>
    simp [allB] at h
    have e1 : catL (e :: L) = entL e.1 (nm e.2) ++ catL L := by simp [catL]
    rw [e1, List.length_append, entL_length _ _ (isB_parts h.1).2, ih (by simpa [allB] using h.2)]
    simp
    omega
theorem catL_bound (L : List (Int × ByteArray)) (h : allB L = true) : ∀ x ∈ catL L, 0 ≤ x ∧ x ≤ 255 := by
  intro x hx
  obtain ⟨e, he, hm⟩ := List.mem_flatMap.1 hx
  have h1 : isB e.1 (nm e.2) = true := List.all_eq_true.1 h e he
  exact entL_bound _ _ (isB_parts h1).2 (nm_bound _) x hm
theorem takeE_snoc (L : List (Int × ByteArray)) (k : Nat) (h : k < L.length) : L.take (k + 1) = L.take k ++ [L.getD k noE] := by
  rw [List.take_succ_eq_append_getElem h]
  simp [List.getD, List.getElem?_eq_getElem h]
set_option maxRecDepth 100000 in
theorem allB_no {L : List (Int × ByteArray)} {k : Nat} (hk : k < L.length) (h : isB (L.getD k noE).1 (nm (L.getD k noE).2) = false) : allB L = false := by
  cases hh : allB L with
  | false => rfl
  | true =>
    have hm : L.getD k noE ∈ L := by simp [List.getD, List.getElem?_eq_getElem hk]
    have := List.all_eq_true.1 hh _ hm
    rw [this] at h
    cases h
end Ent
end Go.Proofs.YtejnmpnioeamhaaGreat
namespace Go.Proofs.YtejnmpnioeamhaaGreat
open Go Go.Proofs Go.RowKit Go.Shelf
namespace Ent
/-- Have these entries a block? -/
def okB (L : List (Int × ByteArray)) : Bool := decide (L.length ≤ 32) && allB L
/-- The block of these entries. -/
def blockL (L : List (Int × ByteArray)) : List Int := catL L ++ zeros (1024 - 32 * L.length)
set_option maxRecDepth 100000 in
theorem pblock_long (w : World) (ao : Option Addr) (n c : Nat) (hn : 32 < n) (hn2 : n ≤ 9223372036854775807) : Calls Tryz.prog 34 #[.slice ao n c] w fun e w' => e = .returned (.tuple #[.slice none 0 0, .int .i64 1]) ∧ w' = w := by
  go_enter Tryz.func34, Tryz.ntmps34
  go_wp2
  go_ret2
  exact ⟨rfl, rfl⟩
set_option maxRecDepth 100000 in
set_option maxHeartbeats 4000000 in
theorem pblock_short (w : World) (ao : Option Addr) (n c : Nat) (L : List (Int × ByteArray)) (h : EAt w ao n L) (hL : ∀ e ∈ L, e.2.size ≤ 1000) (hn : n ≤ 32) : Calls Tryz.prog 34 #[.slice ao n c] w fun e w' => Below w.heap.size w w' ∧ ((okB L = false ∧ e = .returned (.tuple #[.slice none 0 0, .int .i64 1])) ∨
    (okB L = true ∧ ∃ g, e = .returned (.tuple #[.slice (some ⟨g, 0, none⟩) 1024 1024, .int .i64 0]) ∧ RAt w' g (blockL L) ∧ w.heap.size ≤ g)) := by
  obtain ⟨g, hg⟩ : ∃ g, g = w.heap.size := ⟨_, rfl⟩
  obtain ⟨W1, hW1⟩ : ∃ W1, W1 = w.alloc (.cells (By (zeros 1024)).toArray 5) := ⟨_, rfl⟩
  have hMK := make_run w 1024 (by omega)
  rw [← hg] at hMK ⊢
  change _ = Result.ok _ (w.alloc (.cells (By (zeros 1024)).toArray 5)) at hMK
  rw [← hW1] at hMK
  have HR1 : Hid (RAt W1 g (zeros 1024)) := Hid.mk (by rw [hW1, hg]; exact blk_new _ _)
  have HB1 : Hid (Below g w W1) := Hid.mk (by rw [hW1]; exact (Below.refl _ w).alloc (by omega) _)
  have HMK := Hid.mk hMK
  have HLEN := Hid.mk h.1
  have HE : Hid (∀ W, Below g w W → EAt W ao n L) := Hid.mk (fun W hB => h.below (by rw [hg] at hB; exact hB))
  have HL := Hid.mk hL
  have HGS : Hid (g ≤ w.heap.size) := Hid.mk (by omega)
  clear hMK hW1 hg h hL
  go_enter Tryz.func34, Tryz.ntmps34
  go_wp2_with (at_make; refine wpList_make_known rfl _ _ 26 rfl _ _ _ _ rfl rfl HMK.out ?_)
  go_loopw [15] (fun i wr => ∃ k : Nat, k ≤ n ∧ i = .int .i64 k ∧ allB (L.take k) = true ∧ RAt wr g (catL (L.take k) ++ zeros (1024 - 32 * k)) ∧ Below g w wr) (fun i _ => n - (intOf i).toNat)
  case atStart => exact ⟨0, by omega, rfl, rfl, by simpa [catL] using HR1.out, HB1.out⟩
  case round =>
    obtain ⟨k, hk, rfl, hall, hr, hb⟩ := hrel
    have HA := Hid.mk hall
    have HR := Hid.mk hr
    have HB := Hid.mk hb
    clear hall hr hb HR1 HB1 HMK
    by_cases hlt : k < n
    · obtain ⟨a, e, halt, hld, -⟩ := (HE.out wr HB.out).at k hlt
      subst e
      have HM : Hid (L.getD k noE ∈ L) := Hid.mk (by
        have hk2 : k < L.length := by rw [HLEN.out]; exact hlt
        simp [List.getD, List.getElem?_eq_getElem hk2])
      have HSZ := Hid.mk (HL.out _ HM.out)
      have HLD := Hid.mk hld
      have HT := Hid.mk (takeE_snoc L k (by rw [HLEN.out]; exact hlt))
      have HNO : Hid (isB (L.getD k noE).1 (nm (L.getD k noE).2) = false → okB L = false) := Hid.mk (fun h => by
        unfold okB
        rw [allB_no (by rw [HLEN.out]; exact hlt) h]
        simp)
      clear hld halt HM
      generalize L.getD k noE = x at *
      obtain ⟨i, s⟩ := x
      dsimp only at *
      obtain ⟨X, Y, d, hrX, hrY, hD, hBY, hd⟩ := var26 wr i s
      have HRX := Hid.mk hrX
      have HRY := Hid.mk hrY
      have HD := Hid.mk hD
      have HBY := Hid.mk hBY
      clear hrX hrY hD hBY hd
      cases hf : isB i (nm s) with
      | false =>
        have HF := Hid.mk (HNO.out hf)
        have HP := Hid.mk (pack_no Y i s HSZ.out hf)
        clear hf
        go_wp2_with (first
          | (refine wpL_loadat (.tmp 18) rfl rfl _ i s rfl HLD.out ?_)
          | (refine wpL_new rfl rfl _ X HRX.out ?_)
          | (refine wpL_store (.tmp 6) (.tmp 19) rfl rfl _ _ Y rfl rfl HRY.out ?_)
          | (refine wpL_load (.tmp 6) rfl rfl d i s rfl HD.out ?_)
          | (go_at_call 73; refine HP.out.mono ?_; rintro e W4 ⟨rfl, hB4⟩; have HB4 := Hid.mk hB4; clear hB4))
        go_ret2
        exact ⟨(HB.out.trans (HBY.out.mono (Nat.le_trans HGS.out HB.out.size))).trans (HB4.out.mono (Nat.le_trans (Nat.le_trans HGS.out HB.out.size) HBY.out.size)), .inl ⟨HF.out, rfl⟩⟩
      | true =>
        obtain ⟨p, hp⟩ : ∃ p, p = 32 * k := ⟨_, rfl⟩
        have hpk : (k : Int) * 32 = (p : Int) := by omega
        have hp2 : p + 32 ≤ 1024 := by omega
        have HP := Hid.mk (pack_yes Y i s hf)
        have HPL := Hid.mk (isB_parts hf).2
        have HAS : Hid (allB (L.take (k + 1)) = true) := Hid.mk (by rw [HT.out, allB_snoc, HA.out, hf]; rfl)
        have HCL : Hid ((catL (L.take k)).length = p) := Hid.mk (by rw [catL_length _ HA.out, List.length_take, HLEN.out, hp]; omega)
        have HCP : Hid (∀ W4 q, Below Y.heap.size Y W4 → RAt W4 q (entL i (nm s)) → ∃ W5, (Builtin.copy_ #[26, 26] 3 #[.slice (some ⟨g, p, none⟩) (1024 - p) (1024 - p), .slice (some ⟨q, 0, none⟩) 32 32]).run Tryz.prog W4 = .ok (.int .i64 32) W5 ∧ RAt W5 g (catL (L.take (k + 1)) ++ zeros (1024 - 32 * (k + 1))) ∧ Below g w W5) := Hid.mk (fun W4 q hB4 hrow => by
          have hr1 : RAt W4 g (catL (L.take k) ++ zeros (1024 - 32 * k)) := (HR.out.below HBY.out HR.out.lt).below hB4 (Nat.lt_of_lt_of_le HR.out.lt HBY.out.size)
          have hel := entL_length i (nm s) HPL.out
          obtain ⟨W5, h1, h2, h3⟩ := copy_run W4 g p (1024 - p) (1024 - p) _ (entL i (nm s)) (some ⟨q, 0, none⟩) 32 32 hr1 (hrow.full hel) (fun e => by cases e) (by rw [List.length_append, HCL.out, zeros_length]; omega)
          have hmin : min 32 (1024 - p) = 32 := by omega
          rw [hmin] at h1 h2
          have e1 : (entL i (nm s)).take 32 = entL i (nm s) := List.take_of_length_le (by omega)
          have e2 : catL (L.take (k + 1)) = catL (L.take k) ++ entL i (nm s) := by rw [HT.out, catL_snoc]
          have e3 : 1024 - 32 * (k + 1) = 1024 - (p + 32) := by omega
          rw [e1, ← hp, splice_zero 1024 (catL (L.take k)) (entL i (nm s)) p HCL.out (by omega), hel, ← e2, ← e3] at h2
          have hg4 : g ≤ Y.heap.size := Nat.le_trans (Nat.le_trans HGS.out HB.out.size) HBY.out.size
          exact ⟨W5, h1, h2, ((HB.out.trans (HBY.out.mono (Nat.le_trans HGS.out HB.out.size))).trans (hB4.mono hg4)).trans (h3.below (Nat.le_trans hg4 hB4.size) (fun k e => by omega))⟩)
        clear hf hp
        go_wp2_with (first
          | (refine wpL_loadat (.tmp 18) rfl rfl _ i s rfl HLD.out ?_)
          | (refine wpL_new rfl rfl _ X HRX.out ?_)
          | (refine wpL_store (.tmp 6) (.tmp 19) rfl rfl _ _ Y rfl rfl HRY.out ?_)
          | (refine wpL_load (.tmp 6) rfl rfl d i s rfl HD.out ?_)
          | (go_at_call 73; refine HP.out.mono ?_; rintro e W4 ⟨q, rfl, hrow, hq, hB4⟩; obtain ⟨W5, hr5, hrow5, hB5⟩ := HCP.out W4 q hB4 hrow; have HR5 := Hid.mk hr5; have HROW := Hid.mk hrow5; have HB5 := Hid.mk hB5; clear hrow hq hB4 hr5 hrow5 hB5)
          | (refine wpList_copy_known rfl (.tmp 31) (.tmp 32) 26 26 rfl _ _ _ _ rfl rfl HR5.out ?_))
        go_roundw
        case rel => exact ⟨k + 1, by omega, by go_num, HAS.out, HROW.out, HB5.out⟩
        case measure => simp [intOf]; omega
    · have hge : (n : Int) ≤ k := by omega
      obtain rfl : k = n := by omega
      have HT : Hid (L.take k = L) := Hid.mk (List.take_of_length_le (by rw [HLEN.out]; omega))
      have HLE : Hid (k ≤ 32) := Hid.mk hn
      go_wp2
      go_ret2
      have h1 := HA.out
      have h2 := HR.out
      rw [HT.out] at h1 h2
      exact ⟨HB.out, .inr ⟨by unfold okB; rw [h1, HLEN.out, decide_eq_true HLE.out]; rfl, g, rfl, by unfold blockL; rw [HLEN.out]; exact h2, Nat.le_refl _⟩⟩
end Ent
end Go.Proofs.YtejnmpnioeamhaaGreat
namespace Go.Proofs.YtejnmpnioeamhaaGreat
open Go Go.Proofs Go.RowKit Go.Shelf
namespace Ent
set_option maxRecDepth 100000 in
theorem rpblock_long (w : World) (ao : Option Addr) (n c : Nat) (hn : 32 < n) (hn2 : n ≤ 9223372036854775807) : Calls Tryz.prog 57 #[.slice ao n c] w fun e w' => e = .returned (.tuple #[.slice none 0 0, .bool false]) ∧ w' = w := by
  go_enter Tryz.func57, Tryz.ntmps57
  go_wp2
  go_ret2
  exact ⟨rfl, rfl⟩
set_option maxRecDepth 100000 in
set_option maxHeartbeats 4000000 in
theorem rpblock_short (w : World) (ao : Option Addr) (n c : Nat) (L : List (Int × ByteArray)) (h : EAt w ao n L) (hL : ∀ e ∈ L, e.2.size ≤ 1000) (hn : n ≤ 32) : Calls Tryz.prog 57 #[.slice ao n c] w fun e w' => Below w.heap.size w w' ∧ ((okB L = false ∧ e = .returned (.tuple #[.slice none 0 0, .bool false])) ∨
    (okB L = true ∧ ∃ v, e = .returned (.tuple #[v, .bool true]) ∧ w'.ownsRow w.heap.size 5 1 v 1024 (By (blockL L)))) := by
  obtain ⟨B, hBe⟩ : ∃ B, B = w.heap.size := ⟨_, rfl⟩
  rw [← hBe]
  have HLEN := Hid.mk h.1
  have HE : Hid (∀ W, Below B w W → EAt W ao n L) := Hid.mk (fun W hB => h.below (by rw [hBe] at hB; exact hB))
  have HL := Hid.mk hL
  have HGS : Hid (B ≤ w.heap.size) := Hid.mk (by omega)
  clear hBe h hL
  go_enter Tryz.func57, Tryz.ntmps57
  go_wp2
  go_loopw [4, 5] (fun b i wr => ∃ k : Nat, k ≤ n ∧ i = .int .i64 k ∧ allB (L.take k) = true ∧ wr.ownsRow B 5 1 b (32 * k) (By (catL (L.take k))) ∧ Below B w wr) (fun _ i _ => n - (intOf i).toNat)
  case atStart => exact ⟨0, by omega, rfl, rfl, World.ownsRow_nil _ _ 5 1, Below.refl _ _⟩
  case round =>
    obtain ⟨k, hk, rfl, hall, ho, hb⟩ := hrel
    have HA := Hid.mk hall
    have HO := Hid.mk ho
    have HB := Hid.mk hb
    clear hall ho hb
    by_cases hlt : k < n
    · obtain ⟨a, e, halt, hld, -⟩ := (HE.out _ HB.out).at k hlt
      subst e
      have HM : Hid (L.getD k noE ∈ L) := Hid.mk (by
        have hk2 : k < L.length := by rw [HLEN.out]; exact hlt
        simp [List.getD, List.getElem?_eq_getElem hk2])
      have HSZ := Hid.mk (HL.out _ HM.out)
      have HLD := Hid.mk hld
      have HT := Hid.mk (takeE_snoc L k (by rw [HLEN.out]; exact hlt))
      have HNO : Hid (isB (L.getD k noE).1 (nm (L.getD k noE).2) = false → okB L = false) := Hid.mk (fun h => by
        unfold okB
        rw [allB_no (by rw [HLEN.out]; exact hlt) h]
        simp)
      clear hld halt HM
      generalize L.getD k noE = x at *
      obtain ⟨i, s⟩ := x
      dsimp only at *
      cases hf : isB i (nm s) with
      | false =>
        have HF := Hid.mk (HNO.out hf)
        have HP := Hid.mk (rpack_no wr i s HSZ.out hf)
        clear hf
        go_wp2_with (first
          | (refine wpL_loadat (.tmp 20) rfl rfl _ i s rfl HLD.out ?_)
          | (go_at_call 87; refine HP.out.mono ?_; rintro e W4 ⟨rfl, hB4⟩; have HB4 := Hid.mk hB4; clear hB4))
        go_ret2
        exact ⟨HB.out.trans (HB4.out.mono (Nat.le_trans HGS.out HB.out.size)), .inl ⟨HF.out, rfl⟩⟩
      | true =>
        have HP := Hid.mk (rpack_yes wr i s hf)
        have HAS : Hid (allB (L.take (k + 1)) = true) := Hid.mk (by rw [HT.out, allB_snoc, HA.out, hf]; rfl)
        have HAP : Hid (∀ W4 v, Below wr.heap.size wr W4 → W4.ownsRow wr.heap.size 5 1 v 32 (By (entL i (nm s))) → ∃ v' W5, (Builtin.append_ #[26, 26] 26 #[u4, v]).run Tryz.prog W4 = .ok v' W5 ∧ W5.ownsRow B 5 1 v' (32 * (k + 1)) (By (catL (L.take (k + 1)))) ∧ Below B w W5) := Hid.mk (fun W4 v hB4 ho => by
          obtain ⟨ao2, c2, rfl, hb2, -, hne⟩ := owns_BAt ho
          have hsz : B ≤ wr.heap.size := Nat.le_trans HGS.out HB.out.size
          have ho4 : W4.ownsRow B 5 1 u4 (32 * k) (By (catL (L.take k))) := owns_at HO.out (fun j hj => hB4.block j (HO.out.lt j hj).2)
          cases ao2 with
          | none => exact absurd rfl (hne (by omega))
          | some a2 =>
            obtain ⟨v', W5, h1, h2, h3⟩ := append_row_run W4 B u4 (32 * k) _ ho4 (Nat.le_trans hsz hB4.size) a2 32 c2 _ hb2 (by omega)
            have e2 : catL (L.take (k + 1)) = catL (L.take k) ++ entL i (nm s) := by rw [HT.out, catL_snoc]
            rw [← e2] at h2
            exact ⟨v', W5, h1, h2, (HB.out.trans (hB4.mono hsz)).grown h3 (Nat.le_trans hsz hB4.size) (fun j hj => (HO.out.lt j hj).1)⟩)
        clear hf HO
        go_wp2_with (first
          | (refine wpL_loadat (.tmp 20) rfl rfl _ i s rfl HLD.out ?_)
          | (go_at_call 87; refine HP.out.mono ?_; rintro e W4 ⟨v, rfl, ho4, hB4⟩; obtain ⟨v5, W5, hr5, ho5, hB5⟩ := HAP.out W4 v hB4 ho4; have HR5 := Hid.mk hr5; have HO5 := Hid.mk ho5; have HB5 := Hid.mk hB5; clear ho4 hB4 hr5 ho5 hB5)
          | (at_builtin; refine wpList_append_known rfl (.tmp 27) (.tmp 28) 26 rfl _ _ _ _ rfl rfl HR5.out ?_))
        go_roundw
        case rel => exact ⟨k + 1, by omega, by go_num, HAS.out, HO5.out, HB5.out⟩
        case measure => simp [intOf]; omega
    · have hge : (n : Int) ≤ k := by omega
      obtain rfl : k = n := by omega
      have HT : Hid (L.take k = L) := Hid.mk (List.take_of_length_le (by rw [HLEN.out]; omega))
      have HLE : Hid (k ≤ 32) := Hid.mk hn
      have HFI := Hid.mk (fill_any wr B u4 (32 * k) 1024 _ HO.out (Nat.le_trans HGS.out HB.out.size) (by omega) (by omega))
      go_wp2_with (go_at_call 86; refine HFI.out.mono ?_; rintro e W5 ⟨v, rfl, ho5, hB5⟩; have HO5 := Hid.mk ho5; have HB5 := Hid.mk (HB.out.trans hB5); clear ho5 hB5)
      go_ret2
      have h1 := HA.out
      have h2 := HO5.out
      rw [HT.out] at h1 h2
      exact ⟨HB5.out, .inr ⟨by unfold okB; rw [h1, HLEN.out, decide_eq_true HLE.out]; rfl, v, rfl, by unfold blockL; rw [HLEN.out]; exact h2⟩⟩
/-- The bytes of entry k of a block. -/
def blkAt (xs : List Int) (k : Nat) : List Int := (xs.drop (32 * k)).take 32
/-- The first entries of a block. -/
def entsL (xs : List Int) (n : Nat) : List (Int × ByteArray) := (List.range n).map (fun j => (rdI (blkAt xs j), rdS (blkAt xs j)))
theorem entsL_length (xs : List Int) (n : Nat) : (entsL xs n).length = n := by simp [entsL]
theorem entsL_snoc (xs : List Int) (n : Nat) : entsL xs (n + 1) = entsL xs n ++ [(rdI (blkAt xs n), rdS (blkAt xs n))] := by simp [entsL, List.range_succ]
theorem entsL_get (xs : List Int) (n k : Nat) (h : k < n) : (entsL xs n).getD k noE = (rdI (blkAt xs k), rdS (blkAt xs k)) := by simp [entsL, List.getD, h]
theorem blkAt_bound (xs : List Int) (h : ∀ x ∈ xs, 0 ≤ x ∧ x ≤ 255) (k : Nat) : ∀ x ∈ blkAt xs k, 0 ≤ x ∧ x ≤ 255 := take_bound _ (drop_bound _ h _) _
set_option maxRecDepth 100000 in
theorem _root_.Go.Proofs.YtejnmpnioeamhaaGreat.BAt.part {W : World} {a : Addr} {n : Nat} {xs : List Int} (h : BAt W (some a) n xs) (p m : Nat) (hm : p + m ≤ n) : BAt W (some (a.add p)) m ((xs.drop p).take m) := by
  refine ⟨by simp [h.1]; omega, fun hp => ?_⟩
  obtain ⟨a', e, hlt, hc⟩ := h.2 (by omega)
  cases e
  refine ⟨_, rfl, by rw [add_block]; exact hlt, fun i hi => ?_⟩
  rw [add_add, hc (p + i) (by omega)]
  simp [List.getD, hi]
set_option maxRecDepth 100000 in
theorem rents_short (w : World) (ao : Option Addr) (n c : Nat) (hn : n ≠ 1024) : Calls Tryz.prog 79 #[.slice ao n c] w fun e w' => e = .returned (.slice none 0 0) ∧ w' = w := by
  have h1 : ((n : Int) == 1024) = false := by simp; omega
  have h2 : ¬ ((n : Int) = 1024) := by omega
  go_enter Tryz.func79, Tryz.ntmps79
  go_wp2
  go_ret
  exact ⟨rfl, rfl⟩
set_option maxRecDepth 100000 in
set_option maxHeartbeats 4000000 in
theorem rents_full (w : World) (a : Addr) (c : Nat) (xs : List Int) (h : BAt w (some a) 1024 xs) (hx : ∀ x ∈ xs, 0 ≤ x ∧ x ≤ 255) (hc : 1024 ≤ c) (hc2 : c ≤ 9223372036854775807) : Calls Tryz.prog 79 #[.slice (some a) 1024 c] w fun e w' => ∃ v, e = .returned v ∧ w'.ownsRow w.heap.size 84 2 v 32 (Ey (entsL xs 32)) ∧ Below w.heap.size w w' := by
  obtain ⟨B, hBe⟩ : ∃ B, B = w.heap.size := ⟨_, rfl⟩
  rw [← hBe]
  have HBA : Hid (∀ W, Below B w W → BAt W (some a) 1024 xs) := Hid.mk (fun W hB => h.below (by rw [hBe] at hB; exact hB))
  have HX := Hid.mk hx
  have HGS : Hid (B ≤ w.heap.size) := Hid.mk (by omega)
  clear hBe h hx
  go_enter Tryz.func79, Tryz.ntmps79
  go_wp2
  go_loopw [3, 4] (fun b i wr => ∃ k : Nat, k ≤ 32 ∧ i = .int .i64 k ∧ wr.ownsRow B 84 2 b k (Ey (entsL xs k)) ∧ Below B w wr) (fun _ i _ => 32 - (intOf i).toNat)
  case atStart => exact ⟨0, by omega, rfl, World.ownsRow_nil _ _ 84 2, Below.refl _ _⟩
  case round =>
    obtain ⟨k, hk, rfl, ho, hb⟩ := hrel
    have HO := Hid.mk ho
    have HB := Hid.mk hb
    clear ho hb
    by_cases hlt : k < 32
    · obtain ⟨p, hp⟩ : ∃ p, p = 32 * k := ⟨_, rfl⟩
      have hpk : (32 : Int) * (k : Int) = (p : Int) := by omega
      have hp2 : p + 32 ≤ 1024 := by omega
      have hpz : (32 : Int) + (p : Int) = ((p + 32 : Nat) : Int) := by omega
      have HRR : Hid (Calls Tryz.prog 95 #[.slice (some (a.add p)) 32 (c - p)] wr fun e w' => e = .returned (.tuple #[entV (rdI (blkAt xs k)) (rdS (blkAt xs k)), .bool (rdB (blkAt xs k))]) ∧ Below wr.heap.size wr w') := Hid.mk (rread_any wr (some (a.add p)) 32 (c - p) (blkAt xs k) (by
        have := (HBA.out wr HB.out).part p 32 (by omega)
        rw [hp] at this ⊢
        exact this) (blkAt_bound xs HX.out k) (by omega) (by omega))
      have HSN := Hid.mk (entsL_snoc xs k)
      clear hp
      generalize rdI (blkAt xs k) = i at *
      generalize rdS (blkAt xs k) = s at *
      generalize rdB (blkAt xs k) = rb at *
      have HAP : Hid (∀ W4 Y, Below wr.heap.size wr W4 → Below W4.heap.size W4 Y → ∃ v' W5, (Builtin.append_ #[39, 39] 39 #[u3, .slice (some ⟨Y.heap.size, 0, none⟩) 1 1]).run Tryz.prog (Y.alloc (.cells (entC i s).toArray 84)) = .ok v' W5 ∧ W5.ownsRow B 84 2 v' (k + 1) (Ey (entsL xs (k + 1))) ∧ Below B w W5) := Hid.mk (fun W4 Y hB4 hBY => by
        have hsz : B ≤ wr.heap.size := Nat.le_trans HGS.out HB.out.size
        have hY : Below wr.heap.size wr Y := hB4.trans (hBY.mono hB4.size)
        have hoY : Y.ownsRow B 84 2 u3 k (Ey (entsL xs k)) := owns_at HO.out (fun j hj => hY.block j (HO.out.lt j hj).2)
        obtain ⟨v', W5, h1, h2, h3⟩ := appende_run Y B u3 k _ i s hoY (Nat.le_trans hsz hY.size) (by omega)
        rw [← HSN.out] at h2
        exact ⟨v', W5, h1, h2, (HB.out.trans (hY.mono hsz)).trans h3⟩)
      clear HO
      go_wp2_with (first
        | (go_at_call 95; refine HRR.out.mono ?_; rintro e W4 ⟨rfl, hB4⟩; obtain ⟨X, Y, d, hrX, hrY, hD, hBY, hd⟩ := var26 W4 i s; obtain ⟨v5, W5, hr5, ho5, hB5⟩ := HAP.out W4 Y hB4 hBY; have HRX := Hid.mk hrX; have HRY := Hid.mk hrY; have HD := Hid.mk hD; have HR5 := Hid.mk hr5; have HO5 := Hid.mk ho5; have HB5 := Hid.mk hB5; clear hrX hrY hD hBY hd hr5 ho5 hB5 hB4)
        | (refine wpL_new rfl rfl _ X HRX.out ?_)
        | (refine wpL_store (.tmp 5) (.tmp 23) rfl rfl _ _ Y rfl rfl HRY.out ?_)
        | (refine wpL_load (.tmp 5) rfl rfl d i s rfl HD.out ?_)
        | (refine wpL_one (.tmp 26) rfl rfl i s _ _ rfl rfl rfl ?_)
        | (at_builtin; refine wpList_append_known rfl (.tmp 25) (.tmp 27) 39 rfl _ _ _ _ rfl rfl HR5.out ?_))
      go_roundw
      case rel => exact ⟨k + 1, by omega, by go_num, HO5.out, HB5.out⟩
      case measure => simp [intOf]; omega
    · have hge : (32 : Int) ≤ k := by omega
      obtain rfl : k = 32 := by omega
      go_wp2
      go_ret
      exact ⟨_, rfl, HO.out, HB.out⟩
end Ent
end Go.Proofs.YtejnmpnioeamhaaGreat
namespace Go.Proofs.YtejnmpnioeamhaaGreat
open Go Go.Proofs Go.RowKit Go.Shelf
namespace Ent
/-- The entries of these bytes, where they are a block. -/
def blkE (xs : List Int) : List (Int × ByteArray) := if xs.length = 1024 then entsL xs 32 else []
theorem blkE_len (xs : List Int) : (blkE xs).length ≤ 32 := by
  unfold blkE
  split
  · rw [entsL_length]; omega
  · simp
set_option maxRecDepth 100000 in
theorem rents_any (w : World) (ao : Option Addr) (n c : Nat) (xs : List Int) (h : BAt w ao n xs) (hx : ∀ x ∈ xs, 0 ≤ x ∧ x ≤ 255) (hc : n ≤ c) (hc2 : c ≤ 9223372036854775807) : Calls Tryz.prog 79 #[.slice ao n c] w fun e w' => ∃ ap cp, e = .returned (.slice ap (blkE xs).length cp) ∧ EAt w' ap (blkE xs).length (blkE xs) ∧ Below w.heap.size w w' := by
  unfold blkE
  rw [h.1]
  by_cases hn : n = 1024
  · subst hn
    obtain ⟨a, rfl, -⟩ := h.at 0 (by omega)
    rw [if_pos rfl, entsL_length]
    refine (rents_full w a c xs h hx hc hc2).mono ?_
    rintro e w' ⟨v, rfl, ho, hB⟩
    obtain ⟨ap, cp, rfl, hE, -⟩ := owns_EAt ho
    exact ⟨ap, cp, rfl, hE, hB⟩
  · rw [if_neg hn]
    refine (rents_short w ao n c hn).mono ?_
    rintro e w' ⟨rfl, rfl⟩
    exact ⟨none, 0, rfl, EAt.nilEnt _ _, Below.refl _ _⟩
set_option maxRecDepth 100000 in
theorem pblock_no (w : World) (ao : Option Addr) (n c : Nat) (L : List (Int × ByteArray)) (h : EAt w ao n L) (hL : ∀ e ∈ L, e.2.size ≤ 1000) (hn2 : n ≤ 9223372036854775807) (hf : okB L = false) : Calls Tryz.prog 34 #[.slice ao n c] w fun e w' => e = .returned (.tuple #[.slice none 0 0, .int .i64 1]) ∧ Below w.heap.size w w' := by
  by_cases hn : 32 < n
  · refine (pblock_long w ao n c hn hn2).mono ?_
    rintro e w' ⟨rfl, rfl⟩
    exact ⟨rfl, Below.refl _ _⟩
  · refine (pblock_short w ao n c L h hL (by omega)).mono ?_
    rintro e w' ⟨hB, ⟨-, rfl⟩ | ⟨h2, -⟩⟩
    · exact ⟨rfl, hB⟩
    · rw [hf] at h2; cases h2
theorem okB_len {L : List (Int × ByteArray)} (h : okB L = true) : L.length ≤ 32 ∧ allB L = true := by
  unfold okB at h
  simpa using h
set_option maxRecDepth 100000 in
theorem pblock_yes (w : World) (ao : Option Addr) (n c : Nat) (L : List (Int × ByteArray)) (h : EAt w ao n L) (hL : ∀ e ∈ L, e.2.size ≤ 1000) (hf : okB L = true) : Calls Tryz.prog 34 #[.slice ao n c] w fun e w' => ∃ g, e = .returned (.tuple #[.slice (some ⟨g, 0, none⟩) 1024 1024, .int .i64 0]) ∧ RAt w' g (blockL L) ∧ w.heap.size ≤ g ∧ Below w.heap.size w w' := by
  refine (pblock_short w ao n c L h hL (by rw [← h.1]; exact (okB_len hf).1)).mono ?_
  rintro e w' ⟨hB, ⟨h2, -⟩ | ⟨-, g, rfl, h3, h4⟩⟩
  · rw [hf] at h2; cases h2
  · exact ⟨g, rfl, h3, h4, hB⟩
set_option maxRecDepth 100000 in
theorem rpblock_no (w : World) (ao : Option Addr) (n c : Nat) (L : List (Int × ByteArray)) (h : EAt w ao n L) (hL : ∀ e ∈ L, e.2.size ≤ 1000) (hn2 : n ≤ 9223372036854775807) (hf : okB L = false) : Calls Tryz.prog 57 #[.slice ao n c] w fun e w' => e = .returned (.tuple #[.slice none 0 0, .bool false]) ∧ Below w.heap.size w w' := by
  by_cases hn : 32 < n
  · refine (rpblock_long w ao n c hn hn2).mono ?_
    rintro e w' ⟨rfl, rfl⟩
    exact ⟨rfl, Below.refl _ _⟩
  · refine (rpblock_short w ao n c L h hL (by omega)).mono ?_
    rintro e w' ⟨hB, ⟨-, rfl⟩ | ⟨h2, -⟩⟩
    · exact ⟨rfl, hB⟩
    · rw [hf] at h2; cases h2
set_option maxRecDepth 100000 in
theorem rpblock_yes (w : World) (ao : Option Addr) (n c : Nat) (L : List (Int × ByteArray)) (h : EAt w ao n L) (hL : ∀ e ∈ L, e.2.size ≤ 1000) (hf : okB L = true) : Calls Tryz.prog 57 #[.slice ao n c] w fun e w' => ∃ ap cp, e = .returned (.tuple #[.slice ap 1024 cp, .bool true]) ∧ BAt w' ap 1024 (blockL L) ∧ Below w.heap.size w w' := by
  refine (rpblock_short w ao n c L h hL (by rw [← h.1]; exact (okB_len hf).1)).mono ?_
  rintro e w' ⟨hB, ⟨h2, -⟩ | ⟨-, v, rfl, ho⟩⟩
  · rw [hf] at h2; cases h2
  · obtain ⟨ap, cp, rfl, hb, -⟩ := owns_BAt ho
    exact ⟨ap, cp, rfl, hb, hB⟩
theorem blockL_length {L : List (Int × ByteArray)} (h : okB L = true) : (blockL L).length = 1024 := by
  unfold blockL
  rw [List.length_append, catL_length _ (okB_len h).2, zeros_length]
  have := (okB_len h).1
  omega
theorem add1 (a : Addr) : a.add 1 = ⟨a.block, a.off + 1, none⟩ := by simp [Addr.add]
end Ent
end Go.Proofs.YtejnmpnioeamhaaGreat
