/-
  walk.down: its iterator tells the paths, one by one.
-/
import Derived.Test.YtbahbhaoimabdaaWkInto
namespace Go.Proofs.Ytbahbhaoimabdaa
open Go Go.Proofs Go.RowKit Go.Shelf

def noG : Nat → Bool := fun _ => false
def boG (n : Nat) (f : Nat → Bool) : Array Value := ((List.range n).map (fun i => Value.bool (f i))).toArray
theorem boG_get {n i : Nat} {f : Nat → Bool} (h : i < n) : (boG n f)[i]? = some (.bool (f i)) := by
  simp [boG, h]
theorem boG_size (n : Nat) (f : Nat → Bool) : (boG n f).size = n := by simp [boG]
theorem info4G : (Try.prog.info? 4).map (fun i => (i.zero, i.size, i.bytes)) = some (some (.bool false), 1, 1) := by kernel_rfl
theorem makeG_run (w : World) (n : Nat) (hn : n ≤ 16777216) : (Instr.makeSlice 61 (.int .i64 n) (.int .i64 n)).run Try.prog w = .ok (.slice (some ⟨w.heap.size, 0, none⟩) n n) (w.alloc (.cells (boG n noG) 4)) := by
  obtain ⟨i0, hi, hz0, hz1, hz2⟩ := info_parts info4G
  rw [run_makeSlice (P := Try.prog) w 61 4 i0 (.bool false) Try.underlying61 hi hz0 .i64 .i64 n n (by omega) (by omega) (by rw [hz1]; simp; omega) (by rw [hz2]; omega) (by omega)]
  have e : madeCells (Value.bool false).cells ((n : Int).toNat * i0.size) = boG n noG := by
    rw [hz1]
    apply Array.ext'
    rw [show (boG n noG).toList = List.replicate n (Value.bool false) by simp [boG, noG, List.map_const'], List.eq_replicate_iff]
    simp [madeCells, Value.cells, Nat.mod_one]
  rw [e]
  simp
theorem execG_make {ev : Operand → Value} {oi : Oper} {t : TypeId} {l c : Operand} {vl vc v' : Value} {w w' : World} (ho : oi.op = .makeSlice t l c) (hl : ev l = vl) (hc : ev c = vc) (h : (Instr.makeSlice t vl vc).run Try.prog w = .ok v' w') : (execOp ev oi).run Try.prog w = .ok (.value v') w' := by
  unfold execOp
  rw [ho]
  simp only [hl, hc, Sem.run_bind, h, Result.andThen_ok]
  rfl
theorem infoW : (Try.prog.info? 79).map (fun i => (i.zero, i.size, i.bytes)) = some (some (.agg #[.slice none 0 0, .map none, .slice none 0 0, .nilFunc]), 4, 64) := by kernel_rfl
def woodZ : List Value := [.slice none 0 0, .map none, .slice none 0 0, .nilFunc]
def woodC (ao : Option Addr) (m cc b gb gc l : Nat) : List Value := [.slice ao m cc, .map (some b), .slice (some ⟨gb, 0, none⟩) m gc, .func (.yield l) #[] #[]]
theorem execG_alloc {ev : Operand → Value} {oi : Oper} {W : World} (ho : oi.op = .alloc 79) : (execOp ev oi).run Try.prog W = .ok (.value (.pointer (some ⟨W.heap.size, 0, none⟩))) (W.alloc (.cells woodZ.toArray 79)) := by
  have h : (Instr.alloc 79 true (.tuple #[])).run Try.prog W = .ok (.pointer (some ⟨W.heap.size, 0, none⟩)) (W.alloc (.cells woodZ.toArray 79)) := by
    obtain ⟨i0, hi, hz0, hz1, hz2⟩ := info_parts infoW
    simp [Instr.alloc, zeroValue, typeInfo, hi, hz0, newVar, newRow, woodZ, Value.cells]
  unfold execOp
  rw [ho]
  simp only [Sem.run_bind, h, Result.andThen_ok]
  rfl
theorem storeG_run {bx : Nat} {ao : Option Addr} {m cc b gb gc l : Nat} {W : World} (hN : W.heap[bx]? = some (.cells woodZ.toArray 79 (0, 0))) : ∃ W', (Instr.storeAt 79 (.pointer (some ⟨bx, 0, none⟩)) (woodV ao m cc b (some ⟨gb, 0, none⟩) m gc (.func (.yield l) #[] #[]))).run Try.prog W = .ok () W' ∧ BoxAt W' bx ao m cc b gb gc l ∧ Only (fun k => k = bx) W W' := by
  have hst := run_storeCells_at Try.prog bx 0 79 (woodC ao m cc b gb gc l) 0 woodZ.toArray W hN (by simp [woodC, woodZ]) (by intro u hu; simp [woodC] at hu; rcases hu with rfl | rfl | rfl | rfl <;> rfl)
  have e : (woodZ.toArray.toList.take (0 + 0) ++ woodC ao m cc b gb gc l ++ woodZ.toArray.toList.drop (0 + 0 + (woodC ao m cc b gb gc l).length)).toArray = (woodC ao m cc b gb gc l).toArray := by
    rw [List.drop_of_length_le (by simp [woodC, woodZ])]
    simp
  rw [e] at hst
  refine ⟨_, ?_, setRow_heap W bx _ _ 79 _ hN, (Only.refl (fun k => k = bx) W).setRow (.inl rfl) _⟩
  have hl : (woodC ao m cc b gb gc l).length = 4 := rfl
  simp [Instr.storeAt, Instr.sureAddr, storeVar, woodV, Value.cells]
  simpa [woodC] using hst
theorem execG_store {ev : Operand → Value} {oi : Oper} {p x : Operand} {a : Addr} {v : Value} {W W' : World} (ho : oi.op = .store 79 p x) (hp : ev p = .pointer (some a)) (hx : ev x = v) (hr : (Instr.storeAt 79 (.pointer (some a)) v).run Try.prog W = .ok () W') : (execOp ev oi).run Try.prog W = .ok .skip W' := by
  unfold execOp
  rw [ho]
  simp only [hp, hx, Sem.run_bind, hr, Result.andThen_ok]
  rfl
/-- What the iterator has made ahead of its first round. -/
structure DnAt (W : World) (ao : Option Addr) (m cc b gb bx l : Nat) (Nd : Nat → NoV) (A : World) : Prop where
  map : ∃ c, MAt A 3 b c (plcF m Nd m)
  gone : GoAt A gb m noG
  box : BoxAt A bx ao m cc b gb m l
  below : Below W.heap.size W A
  apart : W.heap.size ≤ b ∧ W.heap.size ≤ gb ∧ b ≠ gb
theorem dn_fin {W D0 A A' : World} {ao : Option Addr} {m cc b gb bx l c : Nat} {Nd : Nat → NoV} (hWD : Below W.heap.size W D0) (hB : Below D0.heap.size D0 A) (hM : MAt A 3 b c (plcF m Nd m)) (hG : A.heap[gb]? = some (.cells (boG m noG) 4 (0, 0))) (hX : BoxAt A' bx ao m cc b gb m l) (hO : Only (fun k => k = bx) A A') (h1 : W.heap.size ≤ b) (h2 : W.heap.size ≤ gb) (h3 : W.heap.size ≤ bx) (h4 : b ≠ gb) (h5 : b ≠ bx) (h6 : gb ≠ bx) : DnAt W ao m cc b gb bx l Nd A' :=
  ⟨⟨c, hM.kept (hO.block _ hM.lt h5)⟩, ⟨_, _, (hO.block _ (lt_of_block hG) h6).trans hG, boG_size _ _, fun _ hj => boG_get hj⟩, hX, by
    have h : Below W.heap.size W A := hWD.trans (hB.mono hWD.size)
    exact h.trans (hO.below h.size (fun k e => by omega)), h1, h2, h4⟩
section
variable {P : Program} {md : Region.Mode} {ops : Array Oper} {Q : Exit → Act → World → Prop} {S : World → Prop} {fuel : Nat} {listed : Array Bool} {t : Array Value} {w : World}
theorem stepH_three (i j q : Nat) (hr : Region.ready md ops listed = [i, j, q])
    (h1 : wpOp P ops Q i (fun a' w' => S w' ∧ wpAnyH P md ops Q S fuel (listed.setIfInBounds i true) a' w') { tmps := t, defers := [] } w)
    (h2 : wpOp P ops Q j (fun a' w' => S w' ∧ wpAnyH P md ops Q S fuel (listed.setIfInBounds j true) a' w') { tmps := t, defers := [] } w)
    (h3 : wpOp P ops Q q (fun a' w' => S w' ∧ wpAnyH P md ops Q S fuel (listed.setIfInBounds q true) a' w') { tmps := t, defers := [] } w) : wpAnyH P md ops Q S (fuel + 1) listed { tmps := t, defers := [] } w := by
  refine wpAnyH_all hr (by simp) (fun k hk => ?_)
  rcases List.mem_cons.1 hk with rfl | hk
  · exact h1
  · rcases List.mem_cons.1 hk with rfl | hk
    · exact h2
    · obtain rfl : k = q := by simpa using hk
      exact h3
end
theorem alloc_facts (A : World) (o : Array Value) (t : TypeId) : (A.alloc (.cells o t)).heap[A.heap.size]? = some (.cells o t (0, 0)) ∧ Below A.heap.size A (A.alloc (.cells o t)) ∧ (A.alloc (.cells o t)).heap.size = A.heap.size + 1 :=
  ⟨blk_new A _, (Below.refl _ A).alloc (Nat.le_refl _) _, by simp⟩
/-- All paths that are told of the nodes. -/
def pathsS (m : Nat) (Nd : Nat → NoV) : List ByteArray :=
  match firstN m Nd 1 with
  | some t => if (Nd t).kind = 2 then (intoS m Nd 501 noG t ⟨#[]⟩).1 else []
  | none => []
set_option maxRecDepth 100000 in
set_option maxHeartbeats 4000000 in
theorem down_hit {l N : Nat} {J : (Nat → Prop) → Nat → World → Prop} {ao : Option Addr} {m cc : Nat} {Nd : Nat → NoV} (hJ : Jt Try.prog l N (fun k => #[.string ((pathsS m Nd).getD k ⟨#[]⟩)]) J) (hL : (pathsS m Nd).length = N) (hNo : ∀ S k A, J S k A → NoAt A ao m Nd) (hnm : ∀ d j, d < m → j < (Nd d).sn → ((Nd d).E j).nm.size ≤ 1000) (hm : m ≤ 16777216)
    (W : World) (B : Nat) (hb : W.heap[B]? = some (.cells #[.slice ao m cc] 22 (0, 0))) (h0 : J (fun _ => False) 0 W) :
    Calls Try.prog 41 #[.func (.yield l) #[] #[], .pointer (some ⟨B, 0, none⟩)] W fun e W' => (∃ v, e = .returned v) ∧ ∃ S, J S N W' := by
  have hBL := lt_of_block hb
  have HK : Hid (∀ W', Below W.drew.heap.size W.drew W' → W'.cell? ⟨B, 0, none⟩ = some (.slice ao m cc)) := Hid.mk (fun W' hB => by
    have h1 : W'.heap[B]? = W.drew.heap[B]? := hB.block B hBL
    rw [blk_cell (h1.trans hb)]
    rfl)
  have HPL : Hid (∀ A, Below W.drew.heap.size W.drew A → Calls Try.prog 37 #[.slice ao m cc] A fun e w' => e = .returned (.map (some A.heap.size)) ∧ (∃ c, MAt w' 3 A.heap.size c (plcF m Nd m)) ∧ Below A.heap.size A w') := Hid.mk (fun A hA => places_any A ao m cc Nd ((hNo _ _ _ h0).blw ((Below.refl _ W).drew.trans hA)) (by omega))
  have HMM := Hid.mk hm
  have HH0 := Hid.mk h0
  have HJ := Hid.mk hJ
  have HL := Hid.mk hL
  have HNO := Hid.mk hNo
  have HNM := Hid.mk hnm
  clear hJ hL hNo hnm h0 hb hBL hm
  go_enter Try.func41, Try.ntmps41
  go_upto_region 0 with fail
  go_cut [3] from 6 to 14 (fun v wr => ∃ b gb bx, v = .pointer (some ⟨bx, 0, none⟩) ∧ Hid (DnAt W ao m cc b gb bx l Nd wr))
  case first =>
    refine wp_region_held_drew (S := fun A => A.cell? ⟨B, 0, none⟩ = some (.slice ao m cc)) (by kernel_rfl) (HK.out _ (Below.refl _ _)) (fun hH => ?_)
    change wpAnyH Try.prog Region.Mode.any _ _ _ 10 _ _ _
    have hz0 : W.drew.heap.size = W.heap.size := rfl
    have hWD : Below W.heap.size W W.drew := (Below.refl _ W).drew
    generalize W.drew = D0 at *
    have hB0 : Below D0.heap.size D0 D0 := Below.refl _ _
    refine takeH 0 6 (.slice ao m cc) rfl (by kernel_rfl) (by kernel_rfl) (by kernel_rfl) (by kernel_rfl) (fun _ _ _ h => h) (by kernel_rfl) (fun w hw => by (try dsimp only at hw); go_simp) hH ?_
    simp only [List.setIfInBounds_toArray, List.set_cons_zero, List.set_cons_succ]
    refine takeH 1 7 (.slice ao m cc) rfl (by kernel_rfl) (by kernel_rfl) (by kernel_rfl) (by kernel_rfl) (fun _ _ _ h => h) (by kernel_rfl) (fun w hw => by (try dsimp only at hw); go_simp) hH ?_
    simp only [List.setIfInBounds_toArray, List.set_cons_zero, List.set_cons_succ]
    refine takeH 3 9 (.slice ao m cc) rfl (by kernel_rfl) (by kernel_rfl) (by kernel_rfl) (by kernel_rfl) (fun _ _ _ h => h) (by kernel_rfl) (fun w hw => by (try dsimp only at hw); go_simp) hH ?_
    simp only [List.setIfInBounds_toArray, List.set_cons_zero, List.set_cons_succ]
    refine takeH 4 10 (.int .i64 (m : Nat)) rfl (by kernel_rfl) (by kernel_rfl) (by kernel_rfl) (by kernel_rfl) (fun _ _ _ h => h) (by kernel_rfl) (fun w hw => by (try dsimp only at hw); go_simp) hH ?_
    simp only [List.setIfInBounds_toArray, List.set_cons_zero, List.set_cons_succ]
    refine takeH 6 12 (.func (.yield l) #[] #[]) rfl (by kernel_rfl) (by kernel_rfl) (by kernel_rfl) (by kernel_rfl) (fun _ _ _ h => h) (by kernel_rfl) (fun w hw => by (try dsimp only at hw); go_simp) hH ?_
    simp only [List.setIfInBounds_toArray, List.set_cons_zero, List.set_cons_succ]
    refine stepH_three 2 5 8 (by kernel_rfl) ?_ ?_ ?_
    · refine opH_call 2 8 rfl (by kernel_rfl) (by kernel_rfl) 37 #[.tmp 7] #[22] (by kernel_rfl) (enters_of Try.func37 (by kernel_rfl) rfl) #[.slice ao m cc] (by kernel_rfl) (HPL.out D0 hB0) ?_
      rintro e w1 ⟨rfl, ⟨c, hM1⟩, hS1⟩
      have hz1 : D0.heap.size < w1.heap.size := hM1.lt
      have hB1 : Below D0.heap.size D0 w1 := Below.trans hB0 (Below.mono hS1 (Below.size hB0))
      refine ⟨_, rfl, HK.out _ hB1, ?_⟩
      simp only [List.setIfInBounds_toArray, List.set_cons_zero, List.set_cons_succ]
      refine stepH_two 5 8 (by kernel_rfl) ?_ ?_
      · have hq2 := alloc_facts w1 (boG m noG) 4
        have hB2 : Below D0.heap.size D0 (w1.alloc (.cells (boG m noG) 4)) := Below.trans hB1 (Below.mono hq2.2.1 (Below.size hB1))
        refine opH_run 5 11 (.slice (some ⟨w1.heap.size, 0, none⟩) m m) (w1.alloc (.cells (boG m noG) 4)) rfl (by kernel_rfl) (by kernel_rfl) (execG_make (l := .tmp 10) (c := .tmp 10) rfl (by kernel_rfl) (by kernel_rfl) (makeG_run w1 m HMM.out)) (HK.out _ hB2) ?_
        simp only [List.setIfInBounds_toArray, List.set_cons_zero, List.set_cons_succ]
        generalize w1.alloc (.cells (boG m noG) 4) = w2 at *
        obtain ⟨hM2, hS2, hz2⟩ := hq2
        refine takeH 7 13 (woodV ao m cc (D0.heap.size) (some ⟨w1.heap.size, 0, none⟩) m m (.func (.yield l) #[] #[])) rfl (by kernel_rfl) (by kernel_rfl) (by kernel_rfl) (by kernel_rfl) (fun _ _ _ h => h) (by kernel_rfl) (fun w hw => by kernel_rfl) (HK.out _ hB2) ?_
        simp only [List.setIfInBounds_toArray, List.set_cons_zero, List.set_cons_succ]
        refine stepH_one 8 (by kernel_rfl) ?_
        have hq3 := alloc_facts w2 woodZ.toArray 79
        have hB3 : Below D0.heap.size D0 (w2.alloc (.cells woodZ.toArray 79)) := Below.trans hB2 (Below.mono hq3.2.1 (Below.size hB2))
        refine opH_run 8 3 (.pointer (some ⟨w2.heap.size, 0, none⟩)) (w2.alloc (.cells woodZ.toArray 79)) rfl (by kernel_rfl) (by kernel_rfl) (execG_alloc rfl) (HK.out _ hB3) ?_
        simp only [List.setIfInBounds_toArray, List.set_cons_zero, List.set_cons_succ]
        generalize w2.alloc (.cells woodZ.toArray 79) = w3 at *
        obtain ⟨hM3, hS3, hz3⟩ := hq3
        refine stepH_one 9 (by kernel_rfl) ?_
        obtain ⟨w4, hr4, hX4, hO4⟩ := storeG_run (ao := ao) (m := m) (cc := cc) (b := D0.heap.size) (gb := w1.heap.size) (gc := m) (l := l) hM3
        have hD : DnAt W ao m cc (D0.heap.size) (w1.heap.size) (w2.heap.size) l Nd w4 := dn_fin hWD hB3 ((hM1.kept (hS2.block _ (by omega))).kept (hS3.block _ (by omega))) ((hS3.block _ (by omega)).trans hM2) hX4 hO4 (by omega) (by omega) (by omega) (by omega) (by omega) (by omega)
        refine opH_store 9 w4 rfl (by kernel_rfl) (by kernel_rfl) (execG_store (p := .tmp 3) (x := .tmp 13) rfl (by kernel_rfl) (by kernel_rfl) hr4) (HK.out _ (hB3.trans (hO4.below (Below.size hB3) (fun k e => by omega)))) ?_
        refine wpAnyH_done (by kernel_rfl) ?_ _
        go_wp2
        go_meet
        case rel => exact ⟨_, _, _, rfl, Hid.mk hD⟩
      · have hq2 := alloc_facts w1 woodZ.toArray 79
        have hB2 : Below D0.heap.size D0 (w1.alloc (.cells woodZ.toArray 79)) := Below.trans hB1 (Below.mono hq2.2.1 (Below.size hB1))
        refine opH_run 8 3 (.pointer (some ⟨w1.heap.size, 0, none⟩)) (w1.alloc (.cells woodZ.toArray 79)) rfl (by kernel_rfl) (by kernel_rfl) (execG_alloc rfl) (HK.out _ hB2) ?_
        simp only [List.setIfInBounds_toArray, List.set_cons_zero, List.set_cons_succ]
        generalize w1.alloc (.cells woodZ.toArray 79) = w2 at *
        obtain ⟨hM2, hS2, hz2⟩ := hq2
        refine stepH_one 5 (by kernel_rfl) ?_
        have hq3 := alloc_facts w2 (boG m noG) 4
        have hB3 : Below D0.heap.size D0 (w2.alloc (.cells (boG m noG) 4)) := Below.trans hB2 (Below.mono hq3.2.1 (Below.size hB2))
        refine opH_run 5 11 (.slice (some ⟨w2.heap.size, 0, none⟩) m m) (w2.alloc (.cells (boG m noG) 4)) rfl (by kernel_rfl) (by kernel_rfl) (execG_make (l := .tmp 10) (c := .tmp 10) rfl (by kernel_rfl) (by kernel_rfl) (makeG_run w2 m HMM.out)) (HK.out _ hB3) ?_
        simp only [List.setIfInBounds_toArray, List.set_cons_zero, List.set_cons_succ]
        generalize w2.alloc (.cells (boG m noG) 4) = w3 at *
        obtain ⟨hM3, hS3, hz3⟩ := hq3
        refine takeH 7 13 (woodV ao m cc (D0.heap.size) (some ⟨w2.heap.size, 0, none⟩) m m (.func (.yield l) #[] #[])) rfl (by kernel_rfl) (by kernel_rfl) (by kernel_rfl) (by kernel_rfl) (fun _ _ _ h => h) (by kernel_rfl) (fun w hw => by kernel_rfl) (HK.out _ hB3) ?_
        simp only [List.setIfInBounds_toArray, List.set_cons_zero, List.set_cons_succ]
        refine stepH_one 9 (by kernel_rfl) ?_
        obtain ⟨w4, hr4, hX4, hO4⟩ := storeG_run (ao := ao) (m := m) (cc := cc) (b := D0.heap.size) (gb := w2.heap.size) (gc := m) (l := l) ((hS3.block _ (by omega)).trans hM2)
        have hD : DnAt W ao m cc (D0.heap.size) (w2.heap.size) (w1.heap.size) l Nd w4 := dn_fin hWD hB3 ((hM1.kept (hS2.block _ (by omega))).kept (hS3.block _ (by omega))) hM3 hX4 hO4 (by omega) (by omega) (by omega) (by omega) (by omega) (by omega)
        refine opH_store 9 w4 rfl (by kernel_rfl) (by kernel_rfl) (execG_store (p := .tmp 3) (x := .tmp 13) rfl (by kernel_rfl) (by kernel_rfl) hr4) (HK.out _ (hB3.trans (hO4.below (Below.size hB3) (fun k e => by omega)))) ?_
        refine wpAnyH_done (by kernel_rfl) ?_ _
        go_wp2
        go_meet
        case rel => exact ⟨_, _, _, rfl, Hid.mk hD⟩
    · have hq1 := alloc_facts D0 (boG m noG) 4
      have hB1 : Below D0.heap.size D0 (D0.alloc (.cells (boG m noG) 4)) := Below.trans hB0 (Below.mono hq1.2.1 (Below.size hB0))
      refine opH_run 5 11 (.slice (some ⟨D0.heap.size, 0, none⟩) m m) (D0.alloc (.cells (boG m noG) 4)) rfl (by kernel_rfl) (by kernel_rfl) (execG_make (l := .tmp 10) (c := .tmp 10) rfl (by kernel_rfl) (by kernel_rfl) (makeG_run D0 m HMM.out)) (HK.out _ hB1) ?_
      simp only [List.setIfInBounds_toArray, List.set_cons_zero, List.set_cons_succ]
      generalize D0.alloc (.cells (boG m noG) 4) = w1 at *
      obtain ⟨hM1, hS1, hz1⟩ := hq1
      refine stepH_two 2 8 (by kernel_rfl) ?_ ?_
      · refine opH_call 2 8 rfl (by kernel_rfl) (by kernel_rfl) 37 #[.tmp 7] #[22] (by kernel_rfl) (enters_of Try.func37 (by kernel_rfl) rfl) #[.slice ao m cc] (by kernel_rfl) (HPL.out w1 hB1) ?_
        rintro e w2 ⟨rfl, ⟨c, hM2⟩, hS2⟩
        have hz2 : w1.heap.size < w2.heap.size := hM2.lt
        have hB2 : Below D0.heap.size D0 w2 := Below.trans hB1 (Below.mono hS2 (Below.size hB1))
        refine ⟨_, rfl, HK.out _ hB2, ?_⟩
        simp only [List.setIfInBounds_toArray, List.set_cons_zero, List.set_cons_succ]
        refine takeH 7 13 (woodV ao m cc (w1.heap.size) (some ⟨D0.heap.size, 0, none⟩) m m (.func (.yield l) #[] #[])) rfl (by kernel_rfl) (by kernel_rfl) (by kernel_rfl) (by kernel_rfl) (fun _ _ _ h => h) (by kernel_rfl) (fun w hw => by kernel_rfl) (HK.out _ hB2) ?_
        simp only [List.setIfInBounds_toArray, List.set_cons_zero, List.set_cons_succ]
        refine stepH_one 8 (by kernel_rfl) ?_
        have hq3 := alloc_facts w2 woodZ.toArray 79
        have hB3 : Below D0.heap.size D0 (w2.alloc (.cells woodZ.toArray 79)) := Below.trans hB2 (Below.mono hq3.2.1 (Below.size hB2))
        refine opH_run 8 3 (.pointer (some ⟨w2.heap.size, 0, none⟩)) (w2.alloc (.cells woodZ.toArray 79)) rfl (by kernel_rfl) (by kernel_rfl) (execG_alloc rfl) (HK.out _ hB3) ?_
        simp only [List.setIfInBounds_toArray, List.set_cons_zero, List.set_cons_succ]
        generalize w2.alloc (.cells woodZ.toArray 79) = w3 at *
        obtain ⟨hM3, hS3, hz3⟩ := hq3
        refine stepH_one 9 (by kernel_rfl) ?_
        obtain ⟨w4, hr4, hX4, hO4⟩ := storeG_run (ao := ao) (m := m) (cc := cc) (b := w1.heap.size) (gb := D0.heap.size) (gc := m) (l := l) hM3
        have hD : DnAt W ao m cc (w1.heap.size) (D0.heap.size) (w2.heap.size) l Nd w4 := dn_fin hWD hB3 (hM2.kept (hS3.block _ (by omega))) ((hS3.block _ (by omega)).trans ((hS2.block _ (by omega)).trans hM1)) hX4 hO4 (by omega) (by omega) (by omega) (by omega) (by omega) (by omega)
        refine opH_store 9 w4 rfl (by kernel_rfl) (by kernel_rfl) (execG_store (p := .tmp 3) (x := .tmp 13) rfl (by kernel_rfl) (by kernel_rfl) hr4) (HK.out _ (hB3.trans (hO4.below (Below.size hB3) (fun k e => by omega)))) ?_
        refine wpAnyH_done (by kernel_rfl) ?_ _
        go_wp2
        go_meet
        case rel => exact ⟨_, _, _, rfl, Hid.mk hD⟩
      · have hq2 := alloc_facts w1 woodZ.toArray 79
        have hB2 : Below D0.heap.size D0 (w1.alloc (.cells woodZ.toArray 79)) := Below.trans hB1 (Below.mono hq2.2.1 (Below.size hB1))
        refine opH_run 8 3 (.pointer (some ⟨w1.heap.size, 0, none⟩)) (w1.alloc (.cells woodZ.toArray 79)) rfl (by kernel_rfl) (by kernel_rfl) (execG_alloc rfl) (HK.out _ hB2) ?_
        simp only [List.setIfInBounds_toArray, List.set_cons_zero, List.set_cons_succ]
        generalize w1.alloc (.cells woodZ.toArray 79) = w2 at *
        obtain ⟨hM2, hS2, hz2⟩ := hq2
        refine stepH_one 2 (by kernel_rfl) ?_
        refine opH_call 2 8 rfl (by kernel_rfl) (by kernel_rfl) 37 #[.tmp 7] #[22] (by kernel_rfl) (enters_of Try.func37 (by kernel_rfl) rfl) #[.slice ao m cc] (by kernel_rfl) (HPL.out w2 hB2) ?_
        rintro e w3 ⟨rfl, ⟨c, hM3⟩, hS3⟩
        have hz3 : w2.heap.size < w3.heap.size := hM3.lt
        have hB3 : Below D0.heap.size D0 w3 := Below.trans hB2 (Below.mono hS3 (Below.size hB2))
        refine ⟨_, rfl, HK.out _ hB3, ?_⟩
        simp only [List.setIfInBounds_toArray, List.set_cons_zero, List.set_cons_succ]
        refine takeH 7 13 (woodV ao m cc (w2.heap.size) (some ⟨D0.heap.size, 0, none⟩) m m (.func (.yield l) #[] #[])) rfl (by kernel_rfl) (by kernel_rfl) (by kernel_rfl) (by kernel_rfl) (fun _ _ _ h => h) (by kernel_rfl) (fun w hw => by kernel_rfl) (HK.out _ hB3) ?_
        simp only [List.setIfInBounds_toArray, List.set_cons_zero, List.set_cons_succ]
        refine stepH_one 9 (by kernel_rfl) ?_
        obtain ⟨w4, hr4, hX4, hO4⟩ := storeG_run (ao := ao) (m := m) (cc := cc) (b := w2.heap.size) (gb := D0.heap.size) (gc := m) (l := l) ((hS3.block _ (by omega)).trans hM2)
        have hD : DnAt W ao m cc (w2.heap.size) (D0.heap.size) (w1.heap.size) l Nd w4 := dn_fin hWD hB3 hM3 ((hS3.block _ (by omega)).trans ((hS2.block _ (by omega)).trans hM1)) hX4 hO4 (by omega) (by omega) (by omega) (by omega) (by omega) (by omega)
        refine opH_store 9 w4 rfl (by kernel_rfl) (by kernel_rfl) (execG_store (p := .tmp 3) (x := .tmp 13) rfl (by kernel_rfl) (by kernel_rfl) hr4) (HK.out _ (hB3.trans (hO4.below (Below.size hB3) (fun k e => by omega)))) ?_
        refine wpAnyH_done (by kernel_rfl) ?_ _
        go_wp2
        go_meet
        case rel => exact ⟨_, _, _, rfl, Hid.mk hD⟩
    · have hq1 := alloc_facts D0 woodZ.toArray 79
      have hB1 : Below D0.heap.size D0 (D0.alloc (.cells woodZ.toArray 79)) := Below.trans hB0 (Below.mono hq1.2.1 (Below.size hB0))
      refine opH_run 8 3 (.pointer (some ⟨D0.heap.size, 0, none⟩)) (D0.alloc (.cells woodZ.toArray 79)) rfl (by kernel_rfl) (by kernel_rfl) (execG_alloc rfl) (HK.out _ hB1) ?_
      simp only [List.setIfInBounds_toArray, List.set_cons_zero, List.set_cons_succ]
      generalize D0.alloc (.cells woodZ.toArray 79) = w1 at *
      obtain ⟨hM1, hS1, hz1⟩ := hq1
      refine stepH_two 2 5 (by kernel_rfl) ?_ ?_
      · refine opH_call 2 8 rfl (by kernel_rfl) (by kernel_rfl) 37 #[.tmp 7] #[22] (by kernel_rfl) (enters_of Try.func37 (by kernel_rfl) rfl) #[.slice ao m cc] (by kernel_rfl) (HPL.out w1 hB1) ?_
        rintro e w2 ⟨rfl, ⟨c, hM2⟩, hS2⟩
        have hz2 : w1.heap.size < w2.heap.size := hM2.lt
        have hB2 : Below D0.heap.size D0 w2 := Below.trans hB1 (Below.mono hS2 (Below.size hB1))
        refine ⟨_, rfl, HK.out _ hB2, ?_⟩
        simp only [List.setIfInBounds_toArray, List.set_cons_zero, List.set_cons_succ]
        refine stepH_one 5 (by kernel_rfl) ?_
        have hq3 := alloc_facts w2 (boG m noG) 4
        have hB3 : Below D0.heap.size D0 (w2.alloc (.cells (boG m noG) 4)) := Below.trans hB2 (Below.mono hq3.2.1 (Below.size hB2))
        refine opH_run 5 11 (.slice (some ⟨w2.heap.size, 0, none⟩) m m) (w2.alloc (.cells (boG m noG) 4)) rfl (by kernel_rfl) (by kernel_rfl) (execG_make (l := .tmp 10) (c := .tmp 10) rfl (by kernel_rfl) (by kernel_rfl) (makeG_run w2 m HMM.out)) (HK.out _ hB3) ?_
        simp only [List.setIfInBounds_toArray, List.set_cons_zero, List.set_cons_succ]
        generalize w2.alloc (.cells (boG m noG) 4) = w3 at *
        obtain ⟨hM3, hS3, hz3⟩ := hq3
        refine takeH 7 13 (woodV ao m cc (w1.heap.size) (some ⟨w2.heap.size, 0, none⟩) m m (.func (.yield l) #[] #[])) rfl (by kernel_rfl) (by kernel_rfl) (by kernel_rfl) (by kernel_rfl) (fun _ _ _ h => h) (by kernel_rfl) (fun w hw => by kernel_rfl) (HK.out _ hB3) ?_
        simp only [List.setIfInBounds_toArray, List.set_cons_zero, List.set_cons_succ]
        refine stepH_one 9 (by kernel_rfl) ?_
        obtain ⟨w4, hr4, hX4, hO4⟩ := storeG_run (ao := ao) (m := m) (cc := cc) (b := w1.heap.size) (gb := w2.heap.size) (gc := m) (l := l) ((hS3.block _ (by omega)).trans ((hS2.block _ (by omega)).trans hM1))
        have hD : DnAt W ao m cc (w1.heap.size) (w2.heap.size) (D0.heap.size) l Nd w4 := dn_fin hWD hB3 (hM2.kept (hS3.block _ (by omega))) hM3 hX4 hO4 (by omega) (by omega) (by omega) (by omega) (by omega) (by omega)
        refine opH_store 9 w4 rfl (by kernel_rfl) (by kernel_rfl) (execG_store (p := .tmp 3) (x := .tmp 13) rfl (by kernel_rfl) (by kernel_rfl) hr4) (HK.out _ (hB3.trans (hO4.below (Below.size hB3) (fun k e => by omega)))) ?_
        refine wpAnyH_done (by kernel_rfl) ?_ _
        go_wp2
        go_meet
        case rel => exact ⟨_, _, _, rfl, Hid.mk hD⟩
      · have hq2 := alloc_facts w1 (boG m noG) 4
        have hB2 : Below D0.heap.size D0 (w1.alloc (.cells (boG m noG) 4)) := Below.trans hB1 (Below.mono hq2.2.1 (Below.size hB1))
        refine opH_run 5 11 (.slice (some ⟨w1.heap.size, 0, none⟩) m m) (w1.alloc (.cells (boG m noG) 4)) rfl (by kernel_rfl) (by kernel_rfl) (execG_make (l := .tmp 10) (c := .tmp 10) rfl (by kernel_rfl) (by kernel_rfl) (makeG_run w1 m HMM.out)) (HK.out _ hB2) ?_
        simp only [List.setIfInBounds_toArray, List.set_cons_zero, List.set_cons_succ]
        generalize w1.alloc (.cells (boG m noG) 4) = w2 at *
        obtain ⟨hM2, hS2, hz2⟩ := hq2
        refine stepH_one 2 (by kernel_rfl) ?_
        refine opH_call 2 8 rfl (by kernel_rfl) (by kernel_rfl) 37 #[.tmp 7] #[22] (by kernel_rfl) (enters_of Try.func37 (by kernel_rfl) rfl) #[.slice ao m cc] (by kernel_rfl) (HPL.out w2 hB2) ?_
        rintro e w3 ⟨rfl, ⟨c, hM3⟩, hS3⟩
        have hz3 : w2.heap.size < w3.heap.size := hM3.lt
        have hB3 : Below D0.heap.size D0 w3 := Below.trans hB2 (Below.mono hS3 (Below.size hB2))
        refine ⟨_, rfl, HK.out _ hB3, ?_⟩
        simp only [List.setIfInBounds_toArray, List.set_cons_zero, List.set_cons_succ]
        refine takeH 7 13 (woodV ao m cc (w2.heap.size) (some ⟨w1.heap.size, 0, none⟩) m m (.func (.yield l) #[] #[])) rfl (by kernel_rfl) (by kernel_rfl) (by kernel_rfl) (by kernel_rfl) (fun _ _ _ h => h) (by kernel_rfl) (fun w hw => by kernel_rfl) (HK.out _ hB3) ?_
        simp only [List.setIfInBounds_toArray, List.set_cons_zero, List.set_cons_succ]
        refine stepH_one 9 (by kernel_rfl) ?_
        obtain ⟨w4, hr4, hX4, hO4⟩ := storeG_run (ao := ao) (m := m) (cc := cc) (b := w2.heap.size) (gb := w1.heap.size) (gc := m) (l := l) ((hS3.block _ (by omega)).trans ((hS2.block _ (by omega)).trans hM1))
        have hD : DnAt W ao m cc (w2.heap.size) (w1.heap.size) (D0.heap.size) l Nd w4 := dn_fin hWD hB3 hM3 ((hS3.block _ (by omega)).trans hM2) hX4 hO4 (by omega) (by omega) (by omega) (by omega) (by omega) (by omega)
        refine opH_store 9 w4 rfl (by kernel_rfl) (by kernel_rfl) (execG_store (p := .tmp 3) (x := .tmp 13) rfl (by kernel_rfl) (by kernel_rfl) hr4) (HK.out _ (hB3.trans (hO4.below (Below.size hB3) (fun k e => by omega)))) ?_
        refine wpAnyH_done (by kernel_rfl) ?_ _
        go_wp2
        go_meet
        case rel => exact ⟨_, _, _, rfl, Hid.mk hD⟩
  case rest =>
    obtain ⟨b, gb, bx, rfl, HD⟩ := hcut
    obtain ⟨c, hM⟩ := HD.out.map
    have hj : J (fun x => x = b ∨ x = gb) 0 wc := HJ.out.step _ _ _ _ _ HH0.out (Only.of_new _ HD.out.below) (fun x hx => .inr (by
      have h1 := HD.out.apart
      have h2 := hM.lt
      have h3 := HD.out.gone.lt
      rcases hx with rfl | rfl
      · exact ⟨h1.1, h2⟩
      · exact ⟨h1.2.1, h3⟩))
    have HM := Hid.mk hM
    have HJ0 := Hid.mk hj
    have q0 := blk_cell HD.out.box 0
    have q1 := blk_cell HD.out.box 1
    have q2 := blk_cell HD.out.box 2
    have q3 := blk_cell HD.out.box 3
    simp at q0 q1 q2 q3
    clear hM hj HH0 HPL HK
    have hpl := plc_first m Nd 1
    cases hq : firstN m Nd 1 with
    | none =>
      have hp : pathsS m Nd = [] := by unfold pathsS; rw [hq]
      have hN : N = 0 := by rw [← HL.out, hp]; rfl
      rw [hq] at hpl
      have HCL := Hid.mk (closed_none wc ao m cc b (some ⟨gb, 0, none⟩) m m (.func (.yield l) #[] #[]) c _ HM.out 1 (by decide) hpl)
      clear hpl hq hp
      subst hN
      go_wp2_with (go_at_call 42; refine HCL.out.mono ?_; rintro e w5 ⟨rfl, hB5⟩)
      refine bodyPost_end (results_none rfl _ _ _) rfl ?_
      exact ⟨⟨_, rfl⟩, _, HJ.out.step _ _ _ _ _ HJ0.out (Only.of_new _ hB5) (fun _ hx => .inl hx)⟩
    | some t =>
      rw [hq] at hpl
      obtain ⟨ht, -⟩ := firstN_some hq
      have HT := Hid.mk ht
      have HCL := Hid.mk (closed_some wc ao m cc b gb m m (.func (.yield l) #[] #[]) c _ HM.out 1 (by decide) t hpl ht Nd (HNO.out _ _ _ HJ0.out) false ht (HD.out.gone.cell ht).1)
      by_cases hk : (Nd t).kind = 2
      · have hp : pathsS m Nd = (intoS m Nd 501 noG t ⟨#[]⟩).1 := by unfold pathsS; rw [hq]; simp only [hk, if_true]
        have HP := Hid.mk hp
        rw [hk] at HCL
        simp only [decide_true, Bool.not_false, Bool.and_self] at HCL
        clear hpl hq hp ht hk
        go_upto_region 3 with (go_at_call 42; refine HCL.out.mono ?_; rintro e w5 ⟨rfl, hB5⟩)
        have HB5 := Hid.mk hB5
        have g5 := (hB5.block _ (lt_of_block HD.out.box)).trans HD.out.box
        have p0 := blk_cell g5 0
        have p1 := blk_cell g5 1
        have p2 := blk_cell g5 2
        have p3 := blk_cell g5 3
        simp at p0 p1 p2 p3
        have HCI := Hid.mk (into_any HJ.out HL.out HNO.out HNM.out (by have := HMM.out; omega) HD.out.apart.2.2 501 5 t ⟨#[]⟩ noG 0 c (fun x => x = b ∨ x = gb) w5 HT.out (by decide) (Nat.le_add_left _ _) (HJ.out.step _ _ _ _ _ HJ0.out (Only.of_new _ hB5) (fun _ hx => .inl hx)) (.inl rfl) (.inr rfl) (HM.out.kept (hB5.block _ HM.out.lt)) (gc := m) (ao := ao) (cc := cc) (HD.out.gone.kept (hB5.block _ HD.out.gone.lt)) (by
          have h2 := Nat.lt_of_lt_of_le HM.out.lt hB5.size
          have h3 := Nat.lt_of_lt_of_le HD.out.gone.lt hB5.size
          rintro x (rfl | rfl)
          · exact h2
          · exact h3) (by rw [HP.out]; exact List.prefix_refl _))
        have HCJ := Hid.mk (callsIn_wide.1 HCI.out)
        unfold woodV at HCJ
        clear HCI HCL hB5 g5 q0 q1 q2 q3
        go_wp2_with (go_at_call 43; refine HCJ.out.mono ?_; rintro e w6 ⟨rfl, hj6, -, -, -⟩)
        refine bodyPost_end (results_none rfl _ _ _) rfl ?_
        rw [Nat.zero_add, ← HP.out, HL.out] at hj6
        exact ⟨⟨_, rfl⟩, _, hj6⟩
      · have hp : pathsS m Nd = [] := by unfold pathsS; rw [hq]; simp only [hk, if_false]
        have hN : N = 0 := by rw [← HL.out, hp]; rfl
        rw [decide_eq_false hk, Bool.false_and] at HCL
        clear hpl hq hp ht hk
        subst hN
        go_wp2_with (go_at_call 42; refine HCL.out.mono ?_; rintro e w5 ⟨rfl, hB5⟩)
        refine bodyPost_end (results_none rfl _ _ _) rfl ?_
        exact ⟨⟨_, rfl⟩, _, HJ.out.step _ _ _ _ _ HJ0.out (Only.of_new _ hB5) (fun _ hx => .inl hx)⟩
end Go.Proofs.Ytbahbhaoimabdaa
