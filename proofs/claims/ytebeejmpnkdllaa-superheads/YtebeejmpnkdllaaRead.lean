/-
  Read of the program, ReadSuper of the reference.
-/
import Derived.Test.YtebeejmpnkdllaaPack
import Derived.Deep.Cut
import Derived.Deep.CutRange
import Derived.Deep.CutBlock
namespace Go.Proofs.Ytebeejmpnkdllaa
open Go Go.Proofs Go.RowKit Go.Shelf

theorem str_inj (xs ys : List Int) (hx : ∀ x ∈ xs, 0 ≤ x ∧ x ≤ 255) (hy : ∀ x ∈ ys, 0 ≤ x ∧ x ≤ 255) (h : strOfNums xs = strOfNums ys) : xs = ys := by
  have h1 : xs.map (fun n => UInt8.ofNat n.toNat) = ys.map (fun n => UInt8.ofNat n.toNat) := by
    have := congrArg (fun s : ByteArray => s.data.toList) h
    simpa [strOfNums] using this
  have inj : ∀ zs : List Int, (∀ x ∈ zs, 0 ≤ x ∧ x ≤ 255) → (zs.map (fun n => UInt8.ofNat n.toNat)).map (fun u => (u.toNat : Int)) = zs := by
    intro zs hz
    rw [List.map_map]
    conv => rhs; rw [← List.map_id zs]
    apply List.map_congr_left
    intro x hx
    have := hz x hx
    simp
    omega
  rw [← inj xs hx, ← inj ys hy, h1]

/-- Are two rows of bytes equal? -/
def eqB (xs ys : List Int) : Bool := decide (xs = ys)
theorem str_eqB (xs ys : List Int) (hx : ∀ x ∈ xs, 0 ≤ x ∧ x ≤ 255) (hy : ∀ x ∈ ys, 0 ≤ x ∧ x ≤ 255) : ((strOfNums xs).toList == (strOfNums ys).toList) = eqB xs ys := by
  rw [ByteArray.toList_eq, ByteArray.toList_eq]
  unfold eqB
  by_cases h : xs = ys
  · subst h
    simp
  · rw [decide_eq_false h]
    simp only [beq_eq_false_iff_ne, ne_eq]
    intro e
    refine h (str_inj xs ys hx hy ?_)
    unfold strOfNums at e ⊢
    simp at e
    rw [e]

theorem equal_any (w : World) (ao bo : Option Addr) (n m c d : Nat) (xs ys : List Int) (h1 : BAt w ao n xs) (h2 : BAt w bo m ys) (hx : ∀ x ∈ xs, 0 ≤ x ∧ x ≤ 255) (hy : ∀ x ∈ ys, 0 ≤ x ∧ x ≤ 255) :
    Calls Try.prog 23 #[.slice ao n c, .slice bo m d] w fun e w' => e = .returned (.bool (eqB xs ys)) ∧ w' = w := by
  have c1 := conv_bytes w ao n c xs h1
  have c2 := conv_bytes w bo m d ys h2
  have e := str_eqB xs ys hx hy
  have E := Hid.mk e
  clear e
  go_enter Try.func23, Try.ntmps23
  go_wp2
  go_ret
  exact ⟨by rw [← E.out]; rfl, rfl⟩

/-- The three numbers of a superblock's bytes. -/
def gOf (xs : List Int) : Int := numL ((xs.drop 8).take 4)
def iOf (xs : List Int) : Int := numL ((xs.drop 12).take 4)
def dOf (xs : List Int) : Int := numL ((xs.drop 16).take 4)
/-- Is it a superblock? -/
def rdB (xs : List Int) : Bool := decide (xs.length = 1024) && (good (gOf xs) (iOf xs) (dOf xs) && eqB xs (superL (gOf xs) (iOf xs) (dOf xs)))

def rdV (xs : List Int) : Value := if rdB xs = true then geo (gOf xs) (iOf xs) (dOf xs) else geo 0 0 0
def rdE (xs : List Int) : Int := if rdB xs = true then 0 else 4
theorem rd_yes {xs : List Int} (h : rdB xs = true) : rdV xs = geo (gOf xs) (iOf xs) (dOf xs) ∧ rdE xs = 0 := ⟨if_pos h, if_pos h⟩
theorem rd_no {xs : List Int} (h : rdB xs = false) : rdV xs = geo 0 0 0 ∧ rdE xs = 4 := ⟨if_neg (by simp [h]), if_neg (by simp [h])⟩

theorem BAt.slice {W : World} {a : Addr} {n : Nat} {xs : List Int} (h : BAt W (some a) n xs) (o : Nat) (ho : 0 < o) (hn : o ≤ n) : BAt W (some ⟨a.block, a.off + o, none⟩) (n - o) (xs.drop o) := by
  refine ⟨by simp [h.1], fun hp => ?_⟩
  obtain ⟨a', e, hlt, hc⟩ := h.2 (by omega)
  cases e
  refine ⟨_, rfl, hlt, fun i hi => ?_⟩
  have h2 := hc (o + i) (by omega)
  rw [show a.add (o + i) = (⟨a.block, a.off + o, none⟩ : Addr).add i from by
    rw [add_at]; unfold Addr.add; rw [if_neg (by omega), Nat.add_assoc]] at h2
  rw [h2]
  simp [List.getD]
theorem drop_bound (xs : List Int) (h : ∀ x ∈ xs, 0 ≤ x ∧ x ≤ 255) (o : Nat) : ∀ x ∈ xs.drop o, 0 ≤ x ∧ x ≤ 255 := fun x hx => h x (List.mem_of_mem_drop hx)
theorem take_bound (xs : List Int) (h : ∀ x ∈ xs, 0 ≤ x ∧ x ≤ 255) (o : Nat) : ∀ x ∈ xs.take o, 0 ≤ x ∧ x ≤ 255 := fun x hx => h x (List.mem_of_mem_take hx)
theorem num4_bound (xs : List Int) (h : ∀ x ∈ xs, 0 ≤ x ∧ x ≤ 255) (o : Nat) : 0 ≤ numL ((xs.drop o).take 4) ∧ numL ((xs.drop o).take 4) < 4294967296 := by
  have h1 := numL_bound ((xs.drop o).take 4) (take_bound _ (drop_bound xs h o) 4)
  have h2 : ((xs.drop o).take 4).length ≤ 4 := List.length_take_le _ _
  refine ⟨h1.1, Int.lt_of_lt_of_le h1.2 ?_⟩
  have : (256 : Int) ^ ((xs.drop o).take 4).length ≤ 256 ^ 4 := by
    generalize ((xs.drop o).take 4).length = k at h2
    match k, h2 with
    | 0, _ => decide
    | 1, _ => decide
    | 2, _ => decide
    | 3, _ => decide
    | 4, _ => decide
  exact this

theorem get_slice (W : World) (a : Addr) (c : Nat) (xs : List Int) (h : BAt W (some a) 1024 xs) (hx : ∀ x ∈ xs, 0 ≤ x ∧ x ≤ 255) (o : Nat) (ho : 0 < o) (ho2 : o ≤ 16) :
    Calls Try.prog 22 #[.slice (some ⟨a.block, a.off + o, none⟩) (1024 - o) c] W fun e w' => e = .returned (.int .i64 (numL ((xs.drop o).take 4))) ∧ w' = W :=
  get32_any W _ _ c _ (h.slice o ho (by omega)) (drop_bound xs hx o) (by omega) (by omega)


section
variable {P : Program} {ops : Array Oper} {Q : Exit → Act → World → Prop} {md : Region.Mode} {S : World → Prop} {fuel : Nat} {listed : Array Bool} {t : Array Value} {w : World}

/-- Two operations may come up. -/
theorem stepH_two (i j : Nat) (hr : Region.ready md ops listed = [i, j])
    (h1 : wpOp P ops Q i (fun a' w' => S w' ∧ wpAnyH P md ops Q S fuel (listed.setIfInBounds i true) a' w') { tmps := t, defers := [] } w)
    (h2 : wpOp P ops Q j (fun a' w' => S w' ∧ wpAnyH P md ops Q S fuel (listed.setIfInBounds j true) a' w') { tmps := t, defers := [] } w) : wpAnyH P md ops Q S (fuel + 1) listed { tmps := t, defers := [] } w := by
  refine wpAnyH_all hr (by simp) (fun k hk => ?_)
  rcases List.mem_cons.1 hk with rfl | hk
  · exact h1
  · obtain rfl : k = j := by simpa using hk
    exact h2
theorem stepH_one (i : Nat) (hr : Region.ready md ops listed = [i])
    (h1 : wpOp P ops Q i (fun a' w' => S w' ∧ wpAnyH P md ops Q S fuel (listed.setIfInBounds i true) a' w') { tmps := t, defers := [] } w) : wpAnyH P md ops Q S (fuel + 1) listed { tmps := t, defers := [] } w := by
  refine wpAnyH_all hr (by simp) (fun k hk => ?_)
  obtain rfl : k = i := by simpa using hk
  exact h1
theorem opH_run (i d : Nat) (v : Value) (w' : World) {oi : Oper} (hi : ops[i]? = some oi) (hd : oi.dst = some d) (hw : Region.wanted oi (yielded ops t) = true)
    (hrun : (execOp (Act.eval { tmps := t, defers := [] }) oi).run P w = .ok (.value v) w') (hS : S w')
    (h : wpAnyH P md ops Q S fuel (listed.setIfInBounds i true) { tmps := t.setIfInBounds d v, defers := [] } w') : wpOp P ops Q i (fun a' w' => S w' ∧ wpAnyH P md ops Q S fuel (listed.setIfInBounds i true) a' w') { tmps := t, defers := [] } w := by
  unfold wpOp
  rw [hi]
  dsimp only
  rw [if_pos hw]
  left
  unfold Oper.wp
  rw [hrun, Oper.upon_value, show (Act.put { tmps := t, defers := [] } oi.dst v) = { tmps := t.setIfInBounds d v, defers := [] } from by simp [Act.put, hd]]
  exact ⟨hS, h⟩
/-- An operation that leaves nothing in a slot: a store. -/
theorem opH_store (i : Nat) (w' : World) {oi : Oper} (hi : ops[i]? = some oi) (hd : oi.dst = none) (hw : Region.wanted oi (yielded ops t) = true)
    (hrun : (execOp (Act.eval { tmps := t, defers := [] }) oi).run P w = .ok .skip w') (hS : S w')
    (h : wpAnyH P md ops Q S fuel (listed.setIfInBounds i true) { tmps := t, defers := [] } w') : wpOp P ops Q i (fun a' w' => S w' ∧ wpAnyH P md ops Q S fuel (listed.setIfInBounds i true) a' w') { tmps := t, defers := [] } w := by
  unfold wpOp
  rw [hi]
  dsimp only
  rw [if_pos hw]
  left
  unfold Oper.wp
  rw [hrun, Oper.upon_skip, show (Act.put { tmps := t, defers := [] } oi.dst undef) = { tmps := t, defers := [] } from by simp [Act.put, hd]]
  exact ⟨hS, h⟩
theorem opH_call (i d : Nat) {oi : Oper} (hi : ops[i]? = some oi) (hd : oi.dst = some d) (hw : Region.wanted oi (yielded ops t) = true)
    (f : Nat) (xs : Array Operand) (tys : Array TypeId) (hop : oi.op = Op.call { callee := .value (.func f), args := xs, argTypes := tys })
    (eg : ∀ vs w, (callFunc f vs).run P w = .ok (.enter f vs) w) (vs : Array Value) (hvs : xs.map (Act.eval { tmps := t, defers := [] }) = vs)
    {R : Ending → World → Prop} (hc : Calls P f vs w R)
    (h : ∀ e w', R e w' → ∃ u, e = .returned u ∧ S w' ∧ wpAnyH P md ops Q S fuel (listed.setIfInBounds i true) { tmps := t.setIfInBounds d u, defers := [] } w') : wpOp P ops Q i (fun a' w' => S w' ∧ wpAnyH P md ops Q S fuel (listed.setIfInBounds i true) a' w') { tmps := t, defers := [] } w := by
  unfold wpOp
  rw [hi]
  dsimp only
  rw [if_pos hw]
  left
  have hrun : (execOp (Act.eval { tmps := t, defers := [] }) oi).run P w = .ok (.enter f vs) w := by
    subst hvs
    simp [execOp, hop, resolve, invoke, Act.eval, go_sem, eg]
  unfold Oper.wp
  rw [hrun, Oper.upon_enter]
  refine hc.mono ?_
  intro e w' hr
  obtain ⟨u, rfl, h1, h2⟩ := h e w' hr
  show S w' ∧ wpAnyH P md ops Q S fuel (listed.setIfInBounds i true) (Act.put { tmps := t, defers := [] } oi.dst u) w'
  rw [show (Act.put { tmps := t, defers := [] } oi.dst u) = { tmps := t.setIfInBounds d u, defers := [] } from by simp [Act.put, hd]]
  exact ⟨h1, h2⟩
end
theorem exec_store {P : Program} {ev : Operand → Value} {oi : Oper} {t : TypeId} {p x : Operand} {v u : Value} {w w' : World} (ho : oi.op = .store t p x) (hp : ev p = v) (hx : ev x = u) (h : (Instr.storeAt t v u).run P w = .ok () w') : (execOp ev oi).run P w = .ok .skip w' := by
  unfold execOp
  rw [ho]
  simp only [Sem.run_bind, hp, hx, h, Result.andThen_ok]
  rfl
theorem store_geo_run (X : World) (G I D a b c : Int) : (Instr.storeAt 23 (.pointer (some ⟨X.heap.size, 0, none⟩)) (geo G I D)).run Try.prog (X.alloc (.cells #[.int .i64 a, .int .i64 b, .int .i64 c] 23)) = .ok () (X.alloc (.cells #[.int .i64 G, .int .i64 I, .int .i64 D] 23)) := by
  go_simp

theorem read_short (w : World) (ao : Option Addr) (n c : Nat) (hn : n ≠ 1024) :
    Calls Try.prog 10 #[.slice ao n c] w fun e w' => e = .returned (.tuple #[geo 0 0 0, .int .i64 4]) ∧ Below w.heap.size w w' := by
  have h1 : ((n : Int) == 1024) = false := by simp; omega
  have h2 : ¬ ((n : Int) = 1024) := by omega
  go_enter Try.func10, Try.ntmps10
  go_wp2
  refine bodyPost_ret (v := .tuple #[geo 0 0 0, .int .i64 4]) (by simp [results, Try.results10, go_sem]) rfl ⟨rfl, ?_⟩
  exact ((Below.refl _ w).alloc (Nat.le_refl _) _)

set_option maxRecDepth 100000 in
set_option maxHeartbeats 4000000 in
theorem read_full (w : World) (a : Addr) (c : Nat) (xs : List Int) (h : BAt w (some a) 1024 xs) (hx : ∀ x ∈ xs, 0 ≤ x ∧ x ≤ 255) (hc : 1024 ≤ c) (hc2 : c ≤ 9223372036854775807) :
    Calls Try.prog 10 #[.slice (some a) 1024 c] w fun e w' => e = .returned (.tuple #[rdV xs, .int .i64 (rdE xs)]) ∧ Below w.heap.size w w' := by
  have HX := Hid.mk hx
  have HH := Hid.mk h
  clear h hx
  go_enter Try.func10, Try.ntmps10
  go_upto_region 4 with (go_at_call 21; refine (width32_any _).mono ?_; rintro e w' ⟨rfl, hw⟩; subst w')
  have hS0 : Below w.heap.size w (w.alloc (.cells #[.int .i64 0, .int .i64 0, .int .i64 0] 23)) := (Below.refl _ w).alloc (Nat.le_refl _) _
  have HBA : Hid (∀ W, Below w.heap.size w W → BAt W (some a) 1024 xs) := Hid.mk (fun W hB => HH.out.only (Only.of_new (fun _ => False) hB) (fun _ _ _ h => h))
  have H8 : Hid (∀ W, Below w.heap.size w W → Calls Try.prog 22 #[.slice (some ⟨a.block, a.off + 8, none⟩) 1016 (c - 8)] W fun e w' => e = .returned (.int .i64 (gOf xs)) ∧ w' = W) := Hid.mk (fun W hB => get_slice W a _ xs (HBA.out W hB) HX.out 8 (by omega) (by omega))
  have H12 : Hid (∀ W, Below w.heap.size w W → Calls Try.prog 22 #[.slice (some ⟨a.block, a.off + 12, none⟩) 1012 (c - 12)] W fun e w' => e = .returned (.int .i64 (iOf xs)) ∧ w' = W) := Hid.mk (fun W hB => get_slice W a _ xs (HBA.out W hB) HX.out 12 (by omega) (by omega))
  have H16 : Hid (∀ W, Below w.heap.size w W → Calls Try.prog 22 #[.slice (some ⟨a.block, a.off + 16, none⟩) 1008 (c - 16)] W fun e w' => e = .returned (.int .i64 (dOf xs)) ∧ w' = W) := Hid.mk (fun W hB => get_slice W a _ xs (HBA.out W hB) HX.out 16 (by omega) (by omega))
  go_cut [6] from 14 to 31 (fun v wx => v = .pointer (some ⟨w.heap.size + 1, 0, none⟩) ∧ GAt (w.heap.size + 1) (gOf xs) (iOf xs) (dOf xs) wx ∧ GAt w.heap.size 0 0 0 wx ∧ Below w.heap.size w wx)
  case first =>
    refine wp_region_held_drew (S := Below w.heap.size w) (by kernel_rfl) hS0.drew (fun hS => ?_)
    change wpAnyH Try.prog Region.Mode.any _ _ _ 20 _ _ _
    refine takeH 0 14 (.slice (some a) 1024 c) rfl (by kernel_rfl) (by kernel_rfl) (by kernel_rfl) (by kernel_rfl) (fun _ _ _ h => h) (by kernel_rfl) (fun w hw => by kernel_rfl) hS ?_
    simp only [List.setIfInBounds_toArray, List.set_cons_zero, List.set_cons_succ]
    refine takeH 1 15 (.int .i64 (8)) rfl (by kernel_rfl) (by kernel_rfl) (by kernel_rfl) (by kernel_rfl) (fun _ _ _ h => h) (by kernel_rfl) (fun w hw => by kernel_rfl) hS ?_
    simp only [List.setIfInBounds_toArray, List.set_cons_zero, List.set_cons_succ]
    refine takeH 2 16 (.slice (some ⟨a.block, a.off + 8, none⟩) 1016 (c - 8)) rfl (by kernel_rfl) (by kernel_rfl) (by kernel_rfl) (by kernel_rfl) (fun _ _ _ h => h) (by kernel_rfl) (fun w hw => by ((try dsimp only at hw); go_simp; intro hh; omega)) hS ?_
    simp only [List.setIfInBounds_toArray, List.set_cons_zero, List.set_cons_succ]
    refine takeH 4 18 (.slice (some a) 1024 c) rfl (by kernel_rfl) (by kernel_rfl) (by kernel_rfl) (by kernel_rfl) (fun _ _ _ h => h) (by kernel_rfl) (fun w hw => by kernel_rfl) hS ?_
    simp only [List.setIfInBounds_toArray, List.set_cons_zero, List.set_cons_succ]
    refine takeH 5 19 (.int .i64 (8)) rfl (by kernel_rfl) (by kernel_rfl) (by kernel_rfl) (by kernel_rfl) (fun _ _ _ h => h) (by kernel_rfl) (fun w hw => by kernel_rfl) hS ?_
    simp only [List.setIfInBounds_toArray, List.set_cons_zero, List.set_cons_succ]
    refine takeH 6 20 (.int .i64 (4)) rfl (by kernel_rfl) (by kernel_rfl) (by kernel_rfl) (by kernel_rfl) (fun _ _ _ h => h) (by kernel_rfl) (fun w hw => by kernel_rfl) hS ?_
    simp only [List.setIfInBounds_toArray, List.set_cons_zero, List.set_cons_succ]
    refine takeH 7 21 (.int .i64 (12)) rfl (by kernel_rfl) (by kernel_rfl) (by kernel_rfl) (by kernel_rfl) (fun _ _ _ h => h) (by kernel_rfl) (fun w hw => by kernel_rfl) hS ?_
    simp only [List.setIfInBounds_toArray, List.set_cons_zero, List.set_cons_succ]
    refine takeH 8 22 (.slice (some ⟨a.block, a.off + 12, none⟩) 1012 (c - 12)) rfl (by kernel_rfl) (by kernel_rfl) (by kernel_rfl) (by kernel_rfl) (fun _ _ _ h => h) (by kernel_rfl) (fun w hw => by ((try dsimp only at hw); go_simp; intro hh; omega)) hS ?_
    simp only [List.setIfInBounds_toArray, List.set_cons_zero, List.set_cons_succ]
    refine takeH 10 24 (.slice (some a) 1024 c) rfl (by kernel_rfl) (by kernel_rfl) (by kernel_rfl) (by kernel_rfl) (fun _ _ _ h => h) (by kernel_rfl) (fun w hw => by kernel_rfl) hS ?_
    simp only [List.setIfInBounds_toArray, List.set_cons_zero, List.set_cons_succ]
    refine takeH 11 25 (.int .i64 (8)) rfl (by kernel_rfl) (by kernel_rfl) (by kernel_rfl) (by kernel_rfl) (fun _ _ _ h => h) (by kernel_rfl) (fun w hw => by kernel_rfl) hS ?_
    simp only [List.setIfInBounds_toArray, List.set_cons_zero, List.set_cons_succ]
    refine takeH 12 26 (.int .i64 (4)) rfl (by kernel_rfl) (by kernel_rfl) (by kernel_rfl) (by kernel_rfl) (fun _ _ _ h => h) (by kernel_rfl) (fun w hw => by kernel_rfl) hS ?_
    simp only [List.setIfInBounds_toArray, List.set_cons_zero, List.set_cons_succ]
    refine takeH 13 27 (.int .i64 (8)) rfl (by kernel_rfl) (by kernel_rfl) (by kernel_rfl) (by kernel_rfl) (fun _ _ _ h => h) (by kernel_rfl) (fun w hw => by kernel_rfl) hS ?_
    simp only [List.setIfInBounds_toArray, List.set_cons_zero, List.set_cons_succ]
    refine takeH 14 28 (.int .i64 (16)) rfl (by kernel_rfl) (by kernel_rfl) (by kernel_rfl) (by kernel_rfl) (fun _ _ _ h => h) (by kernel_rfl) (fun w hw => by kernel_rfl) hS ?_
    simp only [List.setIfInBounds_toArray, List.set_cons_zero, List.set_cons_succ]
    refine takeH 15 29 (.slice (some ⟨a.block, a.off + 16, none⟩) 1008 (c - 16)) rfl (by kernel_rfl) (by kernel_rfl) (by kernel_rfl) (by kernel_rfl) (fun _ _ _ h => h) (by kernel_rfl) (fun w hw => by ((try dsimp only at hw); go_simp; intro hh; omega)) hS ?_
    simp only [List.setIfInBounds_toArray, List.set_cons_zero, List.set_cons_succ]
    have hS2 : Below w.heap.size w ((w.alloc (.cells #[.int .i64 0, .int .i64 0, .int .i64 0] 23)).drew.alloc (.cells #[.int .i64 0, .int .i64 0, .int .i64 0] 23)) := hS.alloc (by simp) _
    have hS3 : Below w.heap.size w ((w.alloc (.cells #[.int .i64 0, .int .i64 0, .int .i64 0] 23)).drew.alloc (.cells #[.int .i64 (gOf xs), .int .i64 (iOf xs), .int .i64 (dOf xs)] 23)) := hS.alloc (by simp) _
    have HFIN : Hid (Value.pointer (some ⟨(w.alloc (.cells #[.int .i64 0, .int .i64 0, .int .i64 0] 23)).heap.size, 0, none⟩) = .pointer (some ⟨w.heap.size + 1, 0, none⟩) ∧ GAt (w.heap.size + 1) (gOf xs) (iOf xs) (dOf xs) ((w.alloc (.cells #[.int .i64 0, .int .i64 0, .int .i64 0] 23)).drew.alloc (.cells #[.int .i64 (gOf xs), .int .i64 (iOf xs), .int .i64 (dOf xs)] 23)) ∧ GAt w.heap.size 0 0 0 ((w.alloc (.cells #[.int .i64 0, .int .i64 0, .int .i64 0] 23)).drew.alloc (.cells #[.int .i64 (gOf xs), .int .i64 (iOf xs), .int .i64 (dOf xs)] 23)) ∧ Below w.heap.size w ((w.alloc (.cells #[.int .i64 0, .int .i64 0, .int .i64 0] 23)).drew.alloc (.cells #[.int .i64 (gOf xs), .int .i64 (iOf xs), .int .i64 (dOf xs)] 23))) := Hid.mk ⟨by simp, by
      have h := GAt.new (w.alloc (.cells #[.int .i64 0, .int .i64 0, .int .i64 0] 23)).drew (gOf xs) (iOf xs) (dOf xs)
      simpa using h, (GAt.new w 0 0 0).below (B := (w.alloc (.cells #[.int .i64 0, .int .i64 0, .int .i64 0] 23)).heap.size) (((Below.refl _ _).drew).alloc (by simp) _) (by simp), hS3⟩
    refine stepH_two 3 18 (by kernel_rfl) ?_ ?_
    · refine opH_call 3 17 rfl (by kernel_rfl) (by kernel_rfl) 22 #[.tmp 16] #[26] (by kernel_rfl) (enters_of Try.func22 (by kernel_rfl) rfl) #[.slice (some ⟨a.block, a.off + 8, none⟩) 1016 (c - 8)] (by kernel_rfl) (H8.out _ hS) ?_
      rintro e w5 ⟨rfl, hw⟩
      subst w5
      refine ⟨_, rfl, hS, ?_⟩
      simp only [List.setIfInBounds_toArray, List.set_cons_zero, List.set_cons_succ]
      refine stepH_two 9 18 (by kernel_rfl) ?_ ?_
      · refine opH_call 9 23 rfl (by kernel_rfl) (by kernel_rfl) 22 #[.tmp 22] #[26] (by kernel_rfl) (enters_of Try.func22 (by kernel_rfl) rfl) #[.slice (some ⟨a.block, a.off + 12, none⟩) 1012 (c - 12)] (by kernel_rfl) (H12.out _ hS) ?_
        rintro e w5 ⟨rfl, hw⟩
        subst w5
        refine ⟨_, rfl, hS, ?_⟩
        simp only [List.setIfInBounds_toArray, List.set_cons_zero, List.set_cons_succ]
        refine stepH_two 16 18 (by kernel_rfl) ?_ ?_
        · refine opH_call 16 30 rfl (by kernel_rfl) (by kernel_rfl) 22 #[.tmp 29] #[26] (by kernel_rfl) (enters_of Try.func22 (by kernel_rfl) rfl) #[.slice (some ⟨a.block, a.off + 16, none⟩) 1008 (c - 16)] (by kernel_rfl) (H16.out _ hS) ?_
          rintro e w5 ⟨rfl, hw⟩
          subst w5
          refine ⟨_, rfl, hS, ?_⟩
          simp only [List.setIfInBounds_toArray, List.set_cons_zero, List.set_cons_succ]
          refine takeH 17 31 (geo (gOf xs) (iOf xs) (dOf xs)) rfl (by kernel_rfl) (by kernel_rfl) (by kernel_rfl) (by kernel_rfl) (fun _ _ _ h => h) (by kernel_rfl) (fun w hw => by kernel_rfl) hS ?_
          simp only [List.setIfInBounds_toArray, List.set_cons_zero, List.set_cons_succ]
          refine stepH_one 18 (by kernel_rfl) ?_
          · refine opH_run 18 6 (.pointer (some ⟨(w.alloc (.cells #[.int .i64 0, .int .i64 0, .int .i64 0] 23)).heap.size, 0, none⟩)) ((w.alloc (.cells #[.int .i64 0, .int .i64 0, .int .i64 0] 23)).drew.alloc (.cells #[.int .i64 0, .int .i64 0, .int .i64 0] 23)) rfl (by kernel_rfl) (by kernel_rfl) (by kernel_rfl) hS2 ?_
            simp only [List.setIfInBounds_toArray, List.set_cons_zero, List.set_cons_succ]
            refine stepH_one 19 (by kernel_rfl) ?_
            refine opH_store 19 ((w.alloc (.cells #[.int .i64 0, .int .i64 0, .int .i64 0] 23)).drew.alloc (.cells #[.int .i64 (gOf xs), .int .i64 (iOf xs), .int .i64 (dOf xs)] 23)) rfl (by kernel_rfl) (by kernel_rfl) (exec_store (p := .tmp 6) (x := .tmp 31) rfl (by kernel_rfl) (by kernel_rfl) (store_geo_run (w.alloc (.cells #[.int .i64 0, .int .i64 0, .int .i64 0] 23)).drew (gOf xs) (iOf xs) (dOf xs) 0 0 0)) hS3 ?_
            refine wpAnyH_done (by kernel_rfl) ?_ _
            go_wp2_with fail
            go_meet
            case rel => exact HFIN.out
        · refine opH_run 18 6 (.pointer (some ⟨(w.alloc (.cells #[.int .i64 0, .int .i64 0, .int .i64 0] 23)).heap.size, 0, none⟩)) ((w.alloc (.cells #[.int .i64 0, .int .i64 0, .int .i64 0] 23)).drew.alloc (.cells #[.int .i64 0, .int .i64 0, .int .i64 0] 23)) rfl (by kernel_rfl) (by kernel_rfl) (by kernel_rfl) hS2 ?_
          simp only [List.setIfInBounds_toArray, List.set_cons_zero, List.set_cons_succ]
          refine stepH_one 16 (by kernel_rfl) ?_
          · refine opH_call 16 30 rfl (by kernel_rfl) (by kernel_rfl) 22 #[.tmp 29] #[26] (by kernel_rfl) (enters_of Try.func22 (by kernel_rfl) rfl) #[.slice (some ⟨a.block, a.off + 16, none⟩) 1008 (c - 16)] (by kernel_rfl) (H16.out _ hS2) ?_
            rintro e w5 ⟨rfl, hw⟩
            subst w5
            refine ⟨_, rfl, hS2, ?_⟩
            simp only [List.setIfInBounds_toArray, List.set_cons_zero, List.set_cons_succ]
            refine takeH 17 31 (geo (gOf xs) (iOf xs) (dOf xs)) rfl (by kernel_rfl) (by kernel_rfl) (by kernel_rfl) (by kernel_rfl) (fun _ _ _ h => h) (by kernel_rfl) (fun w hw => by kernel_rfl) hS2 ?_
            simp only [List.setIfInBounds_toArray, List.set_cons_zero, List.set_cons_succ]
            refine stepH_one 19 (by kernel_rfl) ?_
            refine opH_store 19 ((w.alloc (.cells #[.int .i64 0, .int .i64 0, .int .i64 0] 23)).drew.alloc (.cells #[.int .i64 (gOf xs), .int .i64 (iOf xs), .int .i64 (dOf xs)] 23)) rfl (by kernel_rfl) (by kernel_rfl) (exec_store (p := .tmp 6) (x := .tmp 31) rfl (by kernel_rfl) (by kernel_rfl) (store_geo_run (w.alloc (.cells #[.int .i64 0, .int .i64 0, .int .i64 0] 23)).drew (gOf xs) (iOf xs) (dOf xs) 0 0 0)) hS3 ?_
            refine wpAnyH_done (by kernel_rfl) ?_ _
            go_wp2_with fail
            go_meet
            case rel => exact HFIN.out
      · refine opH_run 18 6 (.pointer (some ⟨(w.alloc (.cells #[.int .i64 0, .int .i64 0, .int .i64 0] 23)).heap.size, 0, none⟩)) ((w.alloc (.cells #[.int .i64 0, .int .i64 0, .int .i64 0] 23)).drew.alloc (.cells #[.int .i64 0, .int .i64 0, .int .i64 0] 23)) rfl (by kernel_rfl) (by kernel_rfl) (by kernel_rfl) hS2 ?_
        simp only [List.setIfInBounds_toArray, List.set_cons_zero, List.set_cons_succ]
        refine stepH_one 9 (by kernel_rfl) ?_
        · refine opH_call 9 23 rfl (by kernel_rfl) (by kernel_rfl) 22 #[.tmp 22] #[26] (by kernel_rfl) (enters_of Try.func22 (by kernel_rfl) rfl) #[.slice (some ⟨a.block, a.off + 12, none⟩) 1012 (c - 12)] (by kernel_rfl) (H12.out _ hS2) ?_
          rintro e w5 ⟨rfl, hw⟩
          subst w5
          refine ⟨_, rfl, hS2, ?_⟩
          simp only [List.setIfInBounds_toArray, List.set_cons_zero, List.set_cons_succ]
          refine stepH_one 16 (by kernel_rfl) ?_
          · refine opH_call 16 30 rfl (by kernel_rfl) (by kernel_rfl) 22 #[.tmp 29] #[26] (by kernel_rfl) (enters_of Try.func22 (by kernel_rfl) rfl) #[.slice (some ⟨a.block, a.off + 16, none⟩) 1008 (c - 16)] (by kernel_rfl) (H16.out _ hS2) ?_
            rintro e w5 ⟨rfl, hw⟩
            subst w5
            refine ⟨_, rfl, hS2, ?_⟩
            simp only [List.setIfInBounds_toArray, List.set_cons_zero, List.set_cons_succ]
            refine takeH 17 31 (geo (gOf xs) (iOf xs) (dOf xs)) rfl (by kernel_rfl) (by kernel_rfl) (by kernel_rfl) (by kernel_rfl) (fun _ _ _ h => h) (by kernel_rfl) (fun w hw => by kernel_rfl) hS2 ?_
            simp only [List.setIfInBounds_toArray, List.set_cons_zero, List.set_cons_succ]
            refine stepH_one 19 (by kernel_rfl) ?_
            refine opH_store 19 ((w.alloc (.cells #[.int .i64 0, .int .i64 0, .int .i64 0] 23)).drew.alloc (.cells #[.int .i64 (gOf xs), .int .i64 (iOf xs), .int .i64 (dOf xs)] 23)) rfl (by kernel_rfl) (by kernel_rfl) (exec_store (p := .tmp 6) (x := .tmp 31) rfl (by kernel_rfl) (by kernel_rfl) (store_geo_run (w.alloc (.cells #[.int .i64 0, .int .i64 0, .int .i64 0] 23)).drew (gOf xs) (iOf xs) (dOf xs) 0 0 0)) hS3 ?_
            refine wpAnyH_done (by kernel_rfl) ?_ _
            go_wp2_with fail
            go_meet
            case rel => exact HFIN.out
    · refine opH_run 18 6 (.pointer (some ⟨(w.alloc (.cells #[.int .i64 0, .int .i64 0, .int .i64 0] 23)).heap.size, 0, none⟩)) ((w.alloc (.cells #[.int .i64 0, .int .i64 0, .int .i64 0] 23)).drew.alloc (.cells #[.int .i64 0, .int .i64 0, .int .i64 0] 23)) rfl (by kernel_rfl) (by kernel_rfl) (by kernel_rfl) hS2 ?_
      simp only [List.setIfInBounds_toArray, List.set_cons_zero, List.set_cons_succ]
      refine stepH_one 3 (by kernel_rfl) ?_
      · refine opH_call 3 17 rfl (by kernel_rfl) (by kernel_rfl) 22 #[.tmp 16] #[26] (by kernel_rfl) (enters_of Try.func22 (by kernel_rfl) rfl) #[.slice (some ⟨a.block, a.off + 8, none⟩) 1016 (c - 8)] (by kernel_rfl) (H8.out _ hS2) ?_
        rintro e w5 ⟨rfl, hw⟩
        subst w5
        refine ⟨_, rfl, hS2, ?_⟩
        simp only [List.setIfInBounds_toArray, List.set_cons_zero, List.set_cons_succ]
        refine stepH_one 9 (by kernel_rfl) ?_
        · refine opH_call 9 23 rfl (by kernel_rfl) (by kernel_rfl) 22 #[.tmp 22] #[26] (by kernel_rfl) (enters_of Try.func22 (by kernel_rfl) rfl) #[.slice (some ⟨a.block, a.off + 12, none⟩) 1012 (c - 12)] (by kernel_rfl) (H12.out _ hS2) ?_
          rintro e w5 ⟨rfl, hw⟩
          subst w5
          refine ⟨_, rfl, hS2, ?_⟩
          simp only [List.setIfInBounds_toArray, List.set_cons_zero, List.set_cons_succ]
          refine stepH_one 16 (by kernel_rfl) ?_
          · refine opH_call 16 30 rfl (by kernel_rfl) (by kernel_rfl) 22 #[.tmp 29] #[26] (by kernel_rfl) (enters_of Try.func22 (by kernel_rfl) rfl) #[.slice (some ⟨a.block, a.off + 16, none⟩) 1008 (c - 16)] (by kernel_rfl) (H16.out _ hS2) ?_
            rintro e w5 ⟨rfl, hw⟩
            subst w5
            refine ⟨_, rfl, hS2, ?_⟩
            simp only [List.setIfInBounds_toArray, List.set_cons_zero, List.set_cons_succ]
            refine takeH 17 31 (geo (gOf xs) (iOf xs) (dOf xs)) rfl (by kernel_rfl) (by kernel_rfl) (by kernel_rfl) (by kernel_rfl) (fun _ _ _ h => h) (by kernel_rfl) (fun w hw => by kernel_rfl) hS2 ?_
            simp only [List.setIfInBounds_toArray, List.set_cons_zero, List.set_cons_succ]
            refine stepH_one 19 (by kernel_rfl) ?_
            refine opH_store 19 ((w.alloc (.cells #[.int .i64 0, .int .i64 0, .int .i64 0] 23)).drew.alloc (.cells #[.int .i64 (gOf xs), .int .i64 (iOf xs), .int .i64 (dOf xs)] 23)) rfl (by kernel_rfl) (by kernel_rfl) (exec_store (p := .tmp 6) (x := .tmp 31) rfl (by kernel_rfl) (by kernel_rfl) (store_geo_run (w.alloc (.cells #[.int .i64 0, .int .i64 0, .int .i64 0] 23)).drew (gOf xs) (iOf xs) (dOf xs) 0 0 0)) hS3 ?_
            refine wpAnyH_done (by kernel_rfl) ?_ _
            go_wp2_with fail
            go_meet
            case rel => exact HFIN.out
  case rest =>
    obtain ⟨rfl, hg1, hg0, hB⟩ := hcut
    obtain ⟨c0, c1, c2⟩ := hg1.g3
    have HG1 := Hid.mk hg1
    have HG0 := Hid.mk hg0
    have HB := Hid.mk hB
    have HBX := Hid.mk (HBA.out wc hB)
    have HRD : Hid (rdB xs = (good (gOf xs) (iOf xs) (dOf xs) && eqB xs (superL (gOf xs) (iOf xs) (dOf xs)))) := Hid.mk (by
      unfold rdB; rw [HH.out.1]; simp)
    clear hg1 hg0 hB H8 H12 H16 HBA hS0
    generalize hG : gOf xs = G at *
    generalize hI : iOf xs = I at *
    generalize hD : dOf xs = D at *
    have HGG := Hid.mk hG
    have HII := Hid.mk hI
    have HDD := Hid.mk hD
    clear hG hI hD
    cases hgd : good G I D with
    | false =>
      have HP := Hid.mk (pack_no wc G I D hgd)
      have HR := Hid.mk (rd_no (xs := xs) (by rw [HRD.out, hgd]; rfl))
      clear hgd HRD
      go_wp2_with (go_at_call 8; refine HP.out.mono ?_; rintro e w5 ⟨rfl, hB5⟩; have hg0 := HG0.out.below hB5 HG0.out.lt; obtain ⟨d0, d1, d2⟩ := hg0.g3; have f0 := blk_free hg0 0; have f1 := blk_free hg0 1; have f2 := blk_free hg0 2; have HG05 := Hid.mk hg0; have HB5 := Hid.mk (HB.out.trans (hB5.mono HB.out.size)); clear hB5 hg0 c0 c1 c2)
      refine bodyPost_ret (v := .tuple #[geo 0 0 0, .int .i64 4]) (by simp [results, Try.results10, go_sem, d0, d1, d2]) rfl ⟨by rw [HR.out.1, HR.out.2], ?_⟩
      exact (((HB5.out.setCell (p := ⟨w.heap.size, 0, none⟩) (Nat.le_refl _) _).setCell (p := ⟨w.heap.size, 1, none⟩) (Nat.le_refl _) _).setCell (p := ⟨w.heap.size, 2, none⟩) (Nat.le_refl _) _)
    | true =>
      have HP := Hid.mk (pack_yes wc G I D hgd)
      cases heq : eqB xs (superL G I D) with
      | false =>
        have HR := Hid.mk (rd_no (xs := xs) (by rw [HRD.out, hgd, heq]; rfl))
        have HEQ := Hid.mk heq
        clear hgd HRD heq
        go_wp2_with (first
          | (go_at_call 8; refine HP.out.mono ?_; rintro e w5 ⟨g, rfl, hrow, hge, hB5⟩; have hg0 := HG0.out.below hB5 HG0.out.lt; obtain ⟨d0, d1, d2⟩ := hg0.g3; have f0 := blk_free hg0 0; have f1 := blk_free hg0 1; have f2 := blk_free hg0 2; have HG05 := Hid.mk hg0; have HB5 := Hid.mk (HB.out.trans (hB5.mono HB.out.size)); have HX5 := Hid.mk (HBX.out.only (Only.of_new (fun _ => False) hB5) (fun _ _ _ h => h)); have HRW := Hid.mk hrow; clear hB5 hg0 hrow hge c0 c1 c2)
          | (go_at_call 23; refine (equal_any _ (some a) (some ⟨g, 0, none⟩) 1024 1024 c 1024 xs (superL G I D) HX5.out (by have h := HRW.out.bat 0 1024 (by rw [superL_length]; omega); rw [List.drop_zero, List.take_of_length_le (by rw [superL_length]; omega)] at h; exact h) HX.out (superL_bound G I D)).mono ?_; rintro e w6 ⟨rfl, hw⟩; subst w6; rw [HEQ.out]))
        refine bodyPost_ret (v := .tuple #[geo 0 0 0, .int .i64 4]) (by simp [results, Try.results10, go_sem, d0, d1, d2]) rfl ⟨by rw [HR.out.1, HR.out.2], ?_⟩
        exact (((HB5.out.setCell (p := ⟨w.heap.size, 0, none⟩) (Nat.le_refl _) _).setCell (p := ⟨w.heap.size, 1, none⟩) (Nat.le_refl _) _).setCell (p := ⟨w.heap.size, 2, none⟩) (Nat.le_refl _) _)
      | true =>
        have HR := Hid.mk (rd_yes (xs := xs) (by rw [HRD.out, hgd, heq]; rfl))
        have HEQ := Hid.mk heq
        clear hgd HRD heq
        go_wp2_with (first
          | (go_at_call 8; refine HP.out.mono ?_; rintro e w5 ⟨g, rfl, hrow, hge, hB5⟩; have hg0 := HG0.out.below hB5 HG0.out.lt; obtain ⟨d0, d1, d2⟩ := hg0.g3; have hg1 := HG1.out.below hB5 HG1.out.lt; obtain ⟨k0, k1, k2⟩ := hg1.g3; have f0 := blk_free hg0 0; have f1 := blk_free hg0 1; have f2 := blk_free hg0 2; have HG05 := Hid.mk hg0; have HB5 := Hid.mk (HB.out.trans (hB5.mono HB.out.size)); have HX5 := Hid.mk (HBX.out.only (Only.of_new (fun _ => False) hB5) (fun _ _ _ h => h)); have HRW := Hid.mk hrow; clear hB5 hg0 hg1 hrow hge c0 c1 c2)
          | (go_at_call 23; refine (equal_any _ (some a) (some ⟨g, 0, none⟩) 1024 1024 c 1024 xs (superL G I D) HX5.out (by have h := HRW.out.bat 0 1024 (by rw [superL_length]; omega); rw [List.drop_zero, List.take_of_length_le (by rw [superL_length]; omega)] at h; exact h) HX.out (superL_bound G I D)).mono ?_; rintro e w6 ⟨rfl, hw⟩; subst w6; rw [HEQ.out]))
        refine bodyPost_ret (v := .tuple #[geo G I D, .int .i64 0]) (by simp [results, Try.results10, go_sem, d0, d1, d2]) rfl ⟨?_, ?_⟩
        · rw [HR.out.1, HR.out.2, HGG.out, HII.out, HDD.out]
        · exact (((HB5.out.setCell (p := ⟨w.heap.size, 0, none⟩) (Nat.le_refl _) _).setCell (p := ⟨w.heap.size, 1, none⟩) (Nat.le_refl _) _).setCell (p := ⟨w.heap.size, 2, none⟩) (Nat.le_refl _) _)

theorem read_any (w : World) (ao : Option Addr) (n c : Nat) (xs : List Int) (h : BAt w ao n xs) (hx : ∀ x ∈ xs, 0 ≤ x ∧ x ≤ 255) (hc : n ≤ c) (hc2 : c ≤ 9223372036854775807) :
    Calls Try.prog 10 #[.slice ao n c] w fun e w' => e = .returned (.tuple #[rdV xs, .int .i64 (rdE xs)]) ∧ Below w.heap.size w w' := by
  by_cases hn : n = 1024
  · subst hn
    obtain ⟨a, rfl, -⟩ := h.at 0 (by omega)
    exact read_full w a c xs h hx hc hc2
  · have hr := rd_no (xs := xs) (by unfold rdB; rw [h.1, decide_eq_false hn]; rfl)
    rw [hr.1, hr.2]
    exact read_short w ao n c hn
end Go.Proofs.Ytebeejmpnkdllaa
