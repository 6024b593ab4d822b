/-
  What Write does, for every disk, every block's number and every row of bytes: which sectors are there, the log, the power, and that nothing else has turned.
-/
import Derived.Test.YtmbhjheoomlggaaDkSectors
namespace Go.Proofs.Ytmbhjheoomlggaa
open Go Go.Proofs Go.RowKit Go.Shelf
namespace Dk
attribute [local go_sem] Oper.semAt_some
def stepS (block : Nat) (xs : List Int) (s : DS) (i : Fin 2) : Option DS :=
  if (pow s).1 = true then some (putS (pow s).2 (2 * block + i.1) ((xs.drop (512 * i.1)).take 512)) else none
def runS (block : Nat) (xs : List Int) (s : DS) (pre : List (Fin 2)) : Option DS := pre.foldlM (stepS block xs) s
/-- What a write of a block that is taken makes of a disk. -/
def writeS (s : DS) (block : Nat) (xs : List Int) : Bool × DS :=
  match stepS block xs s 0 with
  | none => (false, (pow s).2)
  | some s1 => match stepS block xs s1 1 with
    | none => (false, (pow s1).2)
    | some s2 => (true, s2)
theorem pow_img (s : DS) : (pow s).2.img = s.img ∧ (pow s).2.log = s.log := by
  unfold pow; split
  · exact ⟨rfl, rfl⟩
  · split <;> exact ⟨rfl, rfl⟩
theorem pow_left (s : DS) (h0 : 0 ≤ s.left) (h1 : s.left ≤ 9223372036854775807) : 0 ≤ (pow s).2.left ∧ (pow s).2.left ≤ 9223372036854775807 := by
  unfold pow; split
  · exact ⟨h0, h1⟩
  · split
    · exact ⟨h0, h1⟩
    · dsimp only; omega
theorem runS_snoc (block : Nat) (xs : List Int) (s : DS) (pre : List (Fin 2)) (x : Fin 2) : runS block xs s (pre ++ [x]) = (runS block xs s pre).bind (fun s1 => stepS block xs s1 x) := by
  simp [runS, List.foldlM_append]
structure Fits (s : DS) (block : Nat) (s1 : DS) (k : Nat) : Prop where
  img : s1.img.length = s.img.length
  log : s1.log.length = s.log.length + k
  left0 : 0 ≤ s1.left
  left1 : s1.left ≤ 9223372036854775807
set_option maxRecDepth 100000 in
theorem step_fits {s s1 s2 : DS} {block k : Nat} {xs : List Int} {x : Fin 2} (hx : xs.length = 1024) (hb : 1024 * block + 1024 ≤ s.img.length) (h : Fits s block s1 k) (hs : stepS block xs s1 x = some s2) : Fits s block s2 (k + 1) := by
  unfold stepS at hs
  split at hs
  · obtain rfl := Option.some.inj hs
    have hp := pow_img s1
    have hl := pow_left s1 h.left0 h.left1
    have hx1 := x.2
    refine ⟨?_, ?_, hl.1, hl.2⟩
    · show (splice _ _ _).length = _
      rw [length_splice _ _ _ (by rw [hp.1, h.img, List.length_take, List.length_drop, hx]; omega), hp.1, h.img]
    · show (_ ++ [_]).length = _
      rw [List.length_append, hp.2, h.log]
      simp
      omega
  · cases hs
theorem add_add (a : Addr) (x i : Nat) : (a.add x).add i = a.add (x + i) := by
  unfold Addr.add
  by_cases h1 : i = 0
  · simp [h1]
  · by_cases h2 : x = 0
    · simp [h1, h2]
    · simp [h1, h2, Nat.add_assoc]
set_option maxRecDepth 100000 in
theorem keeps_of_only {S : Nat → Prop} {W W' : World} (h : Only S W W') (hS : ∀ k, S k → IsC W k) : KeepsOthers W W' := by
  refine ⟨h.size, fun k o hk ho => ?_⟩
  rw [h.block k (Array.getElem?_eq_some_iff.1 hk).1 (fun s => ?_), hk]
  obtain ⟨c, t, fr, hc⟩ := hS k s
  rw [hk] at hc
  cases hc
  cases ho
set_option maxRecDepth 100000 in
/-- A disk abides the turn of a block that is no cells. -/
theorem DiskAt.nocells {F : Nat → Prop} {W W' : World} {d : Nat} {s : DS} {row : Option Nat} (h : DiskAt F W d s) (hg : W.grownBy W' row) (hr : ∀ r, row = some r → ∃ o : Obj, W.heap[r]? = some o ∧ o.isCells = false) : DiskAt F W' d s := by
  have h' : DiskAt (fun k => F k ∧ IsC W k) W d s := h.mono (fun k hs e => ⟨e, hs⟩)
  refine (h'.at (fun k e => hg.block k e.2.lt (fun e2 => ?_))).mono (fun k _ e => e.1)
  obtain ⟨o, ho, hc⟩ := hr k e2.symm
  obtain ⟨c, t, fr, hk⟩ := e.2
  rw [hk] at ho
  cases ho
  cases hc
set_option maxRecDepth 100000 in
set_option maxHeartbeats 1000000 in
theorem write_no (F : Nat → Prop) (w : World) (d : Nat) (s : DS) (h : DiskAt F w d s) (hn : s.img.length ≤ 20480000) (block : Int) (ao : Option Addr) (m c : Nat) (hm : m ≤ 140737488355328)
    (hno : hasB s block = false ∨ m ≠ 1024 ∨ s.dead = true) :
    Calls Try.prog 18 #[.pointer (some ⟨d, 0, none⟩), .int .i64 block, .slice ao m c] w fun e w' => e = .returned (.bool false) ∧ Below w.heap.size w w' := by
  have hB0 : Below w.heap.size w ((w.alloc (.cells #[.pointer (some ⟨d, 0, none⟩)] 24)).alloc (.cells #[.bool false] 4)) := ((Below.refl _ w).alloc (Nat.le_refl _) _).alloc (by simp) _
  have hD := h.only (Only.of_new (fun _ => False) hB0) (fun _ _ _ x => x)
  have HB := Hid.mk (has_any F _ d s hD hn block)
  obtain ⟨h0, bi, lv, h1, h2⟩ := hD
  have hc2 := blk_cell h1 2
  simp at hc2
  have HB0 := Hid.mk hB0
  clear h1 h2 h hB0
  cases hb : hasB s block with
  | false =>
    rw [hb] at HB
    clear hno hb hc2
    go_enter Try.func18, Try.ntmps18
    go_wp2_with (go_at_call 33; refine HB.out.mono ?_; rintro e w' ⟨rfl, hw⟩; subst w')
    refine bodyPost_ret (v := .bool false) (by simp [results, Try.f18, go_sem]) rfl ⟨rfl, HB0.out⟩
  | true =>
    rw [hb] at HB hno
    clear hb
    by_cases hm2 : m = 1024
    · have hd : s.dead = true := by simpa [hm2] using hno
      subst hm2
      rw [hd] at hc2
      clear hno hd
      go_enter Try.func18, Try.ntmps18
      go_wp2_with (go_at_call 33; refine HB.out.mono ?_; rintro e w' ⟨rfl, hw⟩; subst w')
      refine bodyPost_ret (v := .bool false) (by simp [results, Try.f18, go_sem]) rfl ⟨rfl, HB0.out⟩
    · have hmb : ((m : Int) != 1024) = true := by simp; omega
      clear hno hm2
      go_enter Try.func18, Try.ntmps18
      go_wp2_with (go_at_call 33; refine HB.out.mono ?_; rintro e w' ⟨rfl, hw⟩; subst w')
      refine bodyPost_ret (v := .bool false) (by simp [results, Try.f18, go_sem]) rfl ⟨rfl, HB0.out⟩
def Gp (F : Nat → Prop) (w : World) (B : Nat) (k : Nat) : Prop := (F k ∧ k < w.heap.size) ∨ B ≤ k
/-- Between two rounds of the loop in Write. -/
def WI (F : Nat → Prop) (w : World) (d block : Nat) (xs : List Int) (s : DS) (pre : List (Fin 2)) (W : World) : Prop :=
  ∃ s1, runS block xs s pre = some s1 ∧ Fits s block s1 pre.length ∧ DiskAt (Gp F w (w.heap.size + 4)) W d s1 ∧ Only (fun k => F k) w W ∧ w.heap.size + 4 ≤ W.heap.size ∧
    W.heap[w.heap.size]? = some (.cells #[.pointer (some ⟨d, 0, none⟩)] 24 (0, 0)) ∧ W.heap[w.heap.size + 1]? = some (.cells #[.bool false] 4 (0, 0))
/-- The power has failed in the last round. -/
def WX (F : Nat → Prop) (w : World) (d block : Nat) (xs : List Int) (s : DS) (c : Code) (pre : List (Fin 2)) (W : World) : Prop :=
  c = .ret ∧ ∃ p x s1, pre = p ++ [x] ∧ runS block xs s p = some s1 ∧ (pow s1).1 = false ∧ DiskAt (Gp F w (w.heap.size + 4)) W d (pow s1).2 ∧ Only (fun k => F k) w W ∧ w.heap.size + 4 ≤ W.heap.size ∧
    W.heap[w.heap.size + 1]? = some (.cells #[.bool false] 4 (0, 0))
set_option maxRecDepth 100000 in
theorem keep_cells {W W' : World} {row : Option Nat} {b : Nat} {c : Array Value} {t : TypeId} {fr : Nat × Nat} (h : W.heap[b]? = some (.cells c t fr)) (hg : W.grownBy W' row) (hr : ∀ r, row = some r → ∃ o : Obj, W.heap[r]? = some o ∧ o.isCells = false) : W'.heap[b]? = some (.cells c t fr) := by
  rw [hg.block b (lt_of_block h) (fun e => ?_), h]
  obtain ⟨o, ho, hc⟩ := hr b e.symm
  rw [h] at ho
  cases ho
  cases hc
set_option maxRecDepth 100000 in
theorem WI_own (F : Nat → Prop) (w : World) (d block : Nat) (xs : List Int) (s : DS) : OwnFrom (w.heap.size + 4) (WI F w d block xs s) := by
  intro pre W W' row h hg hr
  obtain ⟨s1, h1, hf, h2, h3, h4, h5, h6⟩ := h
  have hr' := fun r e => (hr r e).2
  exact ⟨s1, h1, hf, h2.nocells hg hr', h3.grown hg (fun k e => .inr (by have := (hr k e).1; omega)), Nat.le_trans h4 hg.size, keep_cells h5 hg hr', keep_cells h6 hg hr'⟩
set_option maxRecDepth 100000 in
theorem WX_own (F : Nat → Prop) (w : World) (d block : Nat) (xs : List Int) (s : DS) (c : Code) : OwnFrom (w.heap.size + 4) (WX F w d block xs s c) := by
  intro pre W W' row h hg hr
  obtain ⟨e, p, x, s1, h0, h1, hf, h2, h3, h4, h6⟩ := h
  have hr' := fun r e => (hr r e).2
  exact ⟨e, p, x, s1, h0, h1, hf, h2.nocells hg hr', h3.grown hg (fun k e => .inr (by have := (hr k e).1; omega)), Nat.le_trans h4 hg.size, keep_cells h6 hg hr'⟩
theorem KpB_t {B2 B3 : Nat} {A B C : World} (h : KpB B2 B3 A B) (k : KpB B2 B3 B C) : KpB B2 B3 A C := ⟨k.1.trans h.1, k.2.trans h.2⟩
set_option maxRecDepth 100000 in
theorem KpB_b {B2 B3 : Nat} {w : World} (h2 : B2 < w.heap.size) (h3 : B3 < w.heap.size) (W : World) (l : Nat) (o o' : Obj) (hl : w.heap.size ≤ l) (_ : W.heap[l]? = some o) (_ : o.isCells = false) (_ : o.isWalk = false) : KpB B2 B3 W (W.putObj l o') :=
  ⟨World.putObj_heap_other (by omega), World.putObj_heap_other (by omega)⟩
/-- The footprint of the disk in a round: what lay in it ahead of the call, or was made since the loop began; cells alone. -/
def Gr (F : Nat → Prop) (w W : World) (k : Nat) : Prop := Gp F w (w.heap.size + 4) k ∧ IsC W k
theorem round_box {F : Nat → Prop} {w W W1 : World} (h : Only (Gr F w W) W W1) (hs : w.heap.size + 4 ≤ W.heap.size) (k : Nat) (h1 : w.heap.size ≤ k) (h2 : k < w.heap.size + 4) : W1.heap[k]? = W.heap[k]? :=
  h.block k (by omega) (fun g => by rcases g.1 with g | g <;> omega)
set_option maxRecDepth 100000 in
theorem round_put {F : Nat → Prop} {w W W1 : World} {d block : Nat} {s s1 : DS} {xs : List Int} {a : Addr} {j : Nat} (x : Fin 2) (hn : s.img.length ≤ 20480000) (hlog : s.log.length ≤ 900000) (hj : j < 2)
    (hblk : 1024 * block + 1024 ≤ s.img.length) (hx : xs.length = 1024) (haF : ¬ F a.block) (ha : a.block < w.heap.size) (hc : ∀ i, i < 1024 → w.cell? (a.add i) = some (.int .u8 (xs.getD i 0)))
    (hf : Fits s block s1 j) (hO : Only (fun k => F k) w W) (hD : DiskAt (Gr F w W) W1 d (pow s1).2) (hO1 : Only (Gr F w W) W W1) :
    Calls Try.prog 36 #[.pointer (some ⟨d, 0, none⟩), .int .i64 ((block : Int) * 2 + (x.1 : Int)), .slice (some (a.add (x.1 * 512))) ((x.1 + 1) * 512 - x.1 * 512) ((x.1 + 1) * 512 - x.1 * 512)] W1 fun e w' =>
      e = .returned (.tuple #[]) ∧ DiskAt (fun k => Gr F w W k ∨ W1.heap.size ≤ k) w' d (putS (pow s1).2 (2 * block + x.1) ((xs.drop (512 * x.1)).take 512)) ∧ Only (Gr F w W) W1 w' := by
  have hx1 := x.2
  have e1 : ((block : Int) * 2 + (x.1 : Int)) = ((2 * block + x.1 : Nat) : Int) := by omega
  have e2 : (x.1 + 1) * 512 - x.1 * 512 = 512 := by omega
  rw [e1, e2]
  have hadd : ∀ i, (a.add i).block = a.block := fun i => by unfold Addr.add; split <;> rfl
  have haG : ¬ Gr F w W a.block := fun g => by
    rcases g.1 with g | g
    · exact haF g.1
    · omega
  have haW : a.block < W.heap.size := Nat.lt_of_lt_of_le ha hO.size
  refine put_any (Gr F w W) W1 d (pow s1).2 hD (2 * block + x.1) (a.add (x.1 * 512)) 512 _ ?_ ?_ ?_ ?_ ?_ ?_ ?_
  · rw [(pow_img s1).1, hf.img]; exact hn
  · rw [(pow_img s1).1, hf.img]; omega
  · simp [hx]; omega
  · rw [(pow_img s1).2, hf.log]; omega
  · rw [hadd]; exact haG
  · rw [hadd]; exact Nat.lt_of_lt_of_le haW hO1.size
  · intro i hi
    rw [add_add, getD_window _ _ _ _ hi, Nat.mul_comm 512 x.1, ← hc (x.1 * 512 + i) (by omega)]
    rw [World.cell?_of_block (w := W) (by rw [hadd]; exact hO1.block _ haW haG), World.cell?_of_block (w := w) (by rw [hadd]; exact hO.block _ ha haF)]
theorem Gr_only {F : Nat → Prop} {w W W' : World} (hO : Only (fun k => F k) w W) (h : Only (Gr F w W) W W') : Only (fun k => F k) w W' :=
  hO.trans h (fun k g => by
    rcases g.1 with g | g
    · exact .inl g.1
    · exact .inr (by omega))
set_option maxRecDepth 100000 in
theorem Gr_disk {F : Nat → Prop} {w W W1 W2 : World} {d : Nat} {s : DS} (hs : w.heap.size + 4 ≤ W1.heap.size) (h : DiskAt (fun k => Gr F w W k ∨ W1.heap.size ≤ k) W2 d s) : DiskAt (Gp F w (w.heap.size + 4)) W2 d s :=
  h.mono (fun k _ e => by
    rcases e with e | e
    · exact e.1
    · exact .inr (by omega))
set_option maxRecDepth 100000 in
theorem round_stop {F : Nat → Prop} {w W W1 : World} {d block : Nat} {s s1 : DS} {xs : List Int} {pre : List (Fin 2)} (x : Fin 2) (hrun : runS block xs s pre = some s1) (hp : (pow s1).1 = false)
    (hO : Only (fun k => F k) w W) (hsz : w.heap.size + 4 ≤ W.heap.size) (hb1 : W.heap[w.heap.size + 1]? = some (.cells #[.bool false] 4 (0, 0)))
    (hD1 : DiskAt (Gr F w W) W1 d (pow s1).2) (hO1 : Only (Gr F w W) W W1) :
    KeepsOthers W (W1.setCell ⟨w.heap.size + 1, 0, none⟩ (.bool false)) ∧ WX F w d block xs s .ret (pre ++ [x]) (W1.setCell ⟨w.heap.size + 1, 0, none⟩ (.bool false)) := by
  have e1 := (round_box hO1 hsz (w.heap.size + 1) (by omega) (by omega)).trans hb1
  refine ⟨(keeps_of_only hO1 (fun k g => g.2)).trans (KeepsOthers.setCell _ _ _), rfl, pre, x, s1, rfl, hrun, hp, ?_, (Gr_only hO hO1).setCell (.inr (by simp)) _, ?_, blk_set e1⟩
  · refine ((hD1.mono (H := fun k => Gp F w (w.heap.size + 4) k) (fun k _ e => e.1))).at (fun k e => Below.heap_setCell _ _ _ _ (fun h => ?_))
    rcases e with e | e
    · simp at h; omega
    · simp at h; omega
  · have := hO1.size
    simp [World.setCell]
    omega
set_option maxRecDepth 100000 in
theorem round_go {F : Nat → Prop} {w W W1 W2 : World} {d block : Nat} {s s1 : DS} {xs : List Int} {pre : List (Fin 2)} (x : Fin 2) (hx : xs.length = 1024) (hblk : 1024 * block + 1024 ≤ s.img.length)
    (hrun : runS block xs s pre = some s1) (hf : Fits s block s1 pre.length) (hp : (pow s1).1 = true)
    (hO : Only (fun k => F k) w W) (hsz : w.heap.size + 4 ≤ W.heap.size) (hb0 : W.heap[w.heap.size]? = some (.cells #[.pointer (some ⟨d, 0, none⟩)] 24 (0, 0))) (hb1 : W.heap[w.heap.size + 1]? = some (.cells #[.bool false] 4 (0, 0)))
    (hO1 : Only (Gr F w W) W W1) (hD2 : DiskAt (fun k => Gr F w W k ∨ W1.heap.size ≤ k) W2 d (putS (pow s1).2 (2 * block + x.1) ((xs.drop (512 * x.1)).take 512))) (hO2 : Only (Gr F w W) W1 W2) :
    KeepsOthers W W2 ∧ KpB (w.heap.size + 1 + 1) (w.heap.size + 1 + 1 + 1) W W2 ∧ WI F w d block xs s (pre ++ [x]) W2 := by
  have hO3 : Only (Gr F w W) W W2 := hO1.trans hO2 (fun k g => .inl g)
  have hst : stepS block xs s1 x = some (putS (pow s1).2 (2 * block + x.1) ((xs.drop (512 * x.1)).take 512)) := by simp [stepS, hp]
  refine ⟨keeps_of_only hO3 (fun k g => g.2), ⟨round_box hO3 hsz _ (by omega) (by omega), round_box hO3 hsz _ (by omega) (by omega)⟩, _, ?_, ?_, Gr_disk (by have := hO1.size; omega) hD2, Gr_only hO hO3, by have := hO3.size; omega, ?_, ?_⟩
  · rw [runS_snoc, hrun]
    exact hst
  · rw [List.length_append]
    exact step_fits hx hblk hf hst
  · exact (round_box hO3 hsz _ (by omega) (by omega)).trans hb0
  · exact (round_box hO3 hsz _ (by omega) (by omega)).trans hb1
set_option maxRecDepth 100000 in
theorem writeS_done {block : Nat} {xs : List Int} {s s1 : DS} (h : runS block xs s [0, 1] = some s1) : writeS s block xs = (true, s1) := by
  simp only [runS, List.foldlM_cons, List.foldlM_nil] at h
  unfold writeS
  cases h0 : stepS block xs s 0 with
  | none => rw [h0] at h; cases h
  | some s2 =>
    rw [h0] at h
    simp only [Option.bind_eq_bind, Option.bind_some] at h
    cases h1 : stepS block xs s2 1 with
    | none => rw [h1] at h; cases h
    | some s3 =>
      rw [h1] at h
      cases h
      simp [h1]
set_option maxRecDepth 100000 in
theorem writeS_stop {block : Nat} {xs : List Int} {s s1 : DS} {pre p : List (Fin 2)} {x : Fin 2} (hpre : pre = [0] ∨ pre = [0, 1]) (e : pre = p ++ [x]) (h : runS block xs s p = some s1) (hp : (pow s1).1 = false) : writeS s block xs = (false, (pow s1).2) := by
  have hst : ∀ i, stepS block xs s1 i = none := fun i => by simp [stepS, hp]
  rcases hpre with rfl | rfl
  · have e' := List.append_inj' (s₁ := ([] : List (Fin 2))) (t₁ := [0]) e rfl
    obtain ⟨rfl, _⟩ := e'
    cases h
    unfold writeS
    rw [hst 0]
  · have e' := List.append_inj' (s₁ := ([0] : List (Fin 2))) (t₁ := [1]) e rfl
    obtain ⟨rfl, _⟩ := e'
    simp only [runS, List.foldlM_cons, List.foldlM_nil] at h
    unfold writeS
    cases h0 : stepS block xs s 0 with
    | none => rw [h0] at h; cases h
    | some s2 =>
      rw [h0] at h
      cases h
      simp [hst 1]
set_option maxRecDepth 100000 in
set_option maxHeartbeats 400000 in
theorem sectorsOf_any (w : World) (block : Int) (ao : Option Addr) (n c : Nat) :
    Calls Try.prog 34 #[.int .i64 block, .slice ao n c] w fun e w' => e = .returned (.func (.func 46) #[] #[.pointer (some ⟨w.heap.size, 0, none⟩), .pointer (some ⟨w.heap.size + 1, 0, none⟩)]) ∧
      w' = (w.alloc (.cells #[.int .i64 block] 3)).alloc (.cells #[.slice ao n c] 35) := by
  go_enter Try.func34, Try.ntmps34
  go_wp2
  go_ret
  exact ⟨rfl, rfl⟩
set_option maxRecDepth 100000 in
set_option maxHeartbeats 4000000 in
theorem write_yes (F : Nat → Prop) (w : World) (d : Nat) (s : DS) (h : DiskAt F w d s) (hn : s.img.length ≤ 20480000) (hl0 : 0 ≤ s.left) (hl1 : s.left ≤ 9223372036854775807) (hlog : s.log.length ≤ 900000)
    (block : Nat) (a : Addr) (c : Nat) (xs : List Int) (hyes : hasB s block = true) (hd : s.dead = false) (hx : xs.length = 1024) (hcap : 1024 ≤ c)
    (haF : ¬ F a.block) (ha : a.block < w.heap.size) (hc : ∀ i, i < 1024 → w.cell? (a.add i) = some (.int .u8 (xs.getD i 0))) :
    Calls Try.prog 18 #[.pointer (some ⟨d, 0, none⟩), .int .i64 block, .slice (some a) 1024 c] w fun e w' => e = .returned (.bool (writeS s block xs).1) ∧
      DiskAt (fun k => F k ∨ w.heap.size ≤ k) w' d (writeS s block xs).2 ∧ Only F w w' := by
  have hblk : 1024 * block + 1024 ≤ s.img.length := by
    obtain ⟨q, e, h'⟩ := hasB_nat hyes
    omega
  have hB0 : Below w.heap.size w ((w.alloc (.cells #[.pointer (some ⟨d, 0, none⟩)] 24)).alloc (.cells #[.bool false] 4)) := ((Below.refl _ w).alloc (Nat.le_refl _) _).alloc (by simp) _
  have hD := h.only (Only.of_new (fun _ => False) hB0) (fun _ _ _ x => x)
  have HB := has_any F _ d s hD hn block
  rw [hyes] at HB
  have HB := Hid.mk HB
  obtain ⟨h0, bi, lv, h1, h2⟩ := hD
  have hc2 := blk_cell h1 2
  simp [hd] at hc2
  clear h1 h2 hyes
  have HH := Hid.mk h
  clear h
  refine (callsIn_wide (n := 5)).1 ?_
  refine callsIn_of_wp_marks Try.func18 rfl trivial ?_ rfl
  simp only [Try.ntmps18, List.size_toArray, List.length_cons, List.length_nil, Nat.reduceAdd, Nat.reduceSub, Array.replicate_succ, Array.replicate_zero, List.push_toArray, List.append_toArray, List.nil_append, List.cons_append]
  gi_wp2_with (first | (refine ⟨trivial, ?_⟩; gi_at_call 33; refine (callsIn_wide.2 HB.out).mono ?_; rintro e w' ⟨rfl, hw⟩; subst w') | (refine ⟨trivial, ?_⟩; gi_at_call 34; refine (callsIn_wide.2 (sectorsOf_any _ _ _ _ _)).mono ?_; rintro e w' ⟨rfl, hw⟩; subst w') | fail)
  try simp only [World.size_alloc]
  have q0 := blk_new w (.cells #[.pointer (some ⟨d, 0, none⟩)] 24)
  have q1 := blk_new (w.alloc (.cells #[.pointer (some ⟨d, 0, none⟩)] 24)) (.cells #[.bool false] 4)
  have q2 := blk_new ((w.alloc (.cells #[.pointer (some ⟨d, 0, none⟩)] 24)).alloc (.cells #[.bool false] 4)) (.cells #[.int .i64 block] 3)
  have q3 := blk_new (((w.alloc (.cells #[.pointer (some ⟨d, 0, none⟩)] 24)).alloc (.cells #[.bool false] 4)).alloc (.cells #[.int .i64 block] 3)) (.cells #[.slice (some a) 1024 c] 35)
  simp only [World.size_alloc] at q1 q2 q3
  obtain ⟨W0, hW0⟩ : ∃ W0, W0 = (((w.alloc (.cells #[.pointer (some ⟨d, 0, none⟩)] 24)).alloc (.cells #[.bool false] 4)).alloc (.cells #[.int .i64 block] 3)).alloc (.cells #[.slice (some a) 1024 c] 35) := ⟨_, rfl⟩
  have z0 : W0.heap[w.heap.size]? = some (.cells #[.pointer (some ⟨d, 0, none⟩)] 24 (0, 0)) := by
    rw [hW0, Below.heap_alloc _ _ _ (by simp; omega), Below.heap_alloc _ _ _ (by simp; omega), Below.heap_alloc _ _ _ (by simp)]; exact q0
  have z1 : W0.heap[w.heap.size + 1]? = some (.cells #[.bool false] 4 (0, 0)) := by
    rw [hW0, Below.heap_alloc _ _ _ (by simp), Below.heap_alloc _ _ _ (by simp)]; exact q1
  have z2 : W0.heap[w.heap.size + 1 + 1]? = some (.cells #[.int .i64 block] 3 (0, 0)) := by
    rw [hW0, Below.heap_alloc _ _ _ (by simp)]; exact q2
  have z3 : W0.heap[w.heap.size + 1 + 1 + 1]? = some (.cells #[.slice (some a) 1024 c] 35 (0, 0)) := by rw [hW0]; exact q3
  have zs : W0.heap.size = w.heap.size + 4 := by rw [hW0]; simp
  have zb : Below w.heap.size w W0 := by
    rw [hW0]
    exact ((((Below.refl _ w).alloc (Nat.le_refl _) _).alloc (by simp) _).alloc (by simp; omega) _).alloc (by simp; omega) _
  rw [← hW0]
  clear q0 q1 q2 q3 hW0 HB hB0 hc2
  have HC := Hid.mk hc
  clear hc
  have hd0 : d < w.heap.size := HH.out.lt
  have hz4 : W0.heap.size = w.heap.size + 4 := zs
  refine wpIn_rangeFunc_ownF rfl (by omega) (gf := 46) (lb := #[.pointer (some ⟨w.heap.size + 1 + 1, 0, none⟩), .pointer (some ⟨w.heap.size + 1 + 1 + 1, 0, none⟩)]) rfl trivial (enters_of Try.func46 (by kernel_rfl) rfl)
    (sectors_stops _ (by omega) (w.heap.size + 1 + 1) (w.heap.size + 1 + 1 + 1) block (by omega) a c hcap W0 z2 z3) KpB_t (KpB_b (by omega) (by omega)) (Below.refl _ _) (fun _ => rfl)
    (WI F w d block xs s) (WX F w d block xs s) (by rw [zs]; exact WI_own F w d block xs s) (by rw [zs]; exact WX_own F w d block xs s) ?start
    (fun x => { tmps := #[.pointer (some ⟨d, 0, none⟩), .int .i64 block, .slice (some a) 1024 c, .pointer (some ⟨w.heap.size, 0, none⟩), undef, undef, .pointer (some ⟨w.heap.size + 1, 0, none⟩),
      .int .i64 ((block : Int) * 2 + (x.1 : Int)), .slice (some (a.add (x.1 * 512))) ((x.1 + 1) * 512 - x.1 * 512) ((x.1 + 1) * 512 - x.1 * 512),
      .pointer (some ⟨d, 0, none⟩), .int .i64 block, .bool true, .bool false, .bool false, .slice (some a) 1024 c, .int .i64 1024, .bool false, .bool false, .bool false, .pointer (some ⟨d, 0, none⟩), .pointer (some ⟨d, 0, none⟩), .pointer (some ⟨d, 2, none⟩),
      .bool false, .bool false, .int .i64 block, .slice (some a) 1024 c, .func (.func 46) #[] #[.pointer (some ⟨w.heap.size + 1 + 1, 0, none⟩), .pointer (some ⟨w.heap.size + 1 + 1 + 1, 0, none⟩)],
      .int .i64 ((block : Int) * 2 + (x.1 : Int)), .slice (some (a.add (x.1 * 512))) ((x.1 + 1) * 512 - x.1 * 512) ((x.1 + 1) * 512 - x.1 * 512), undef, undef, undef, undef, undef, undef, undef], defers := [] }) ?assign ?body ?done ?stop
  case start =>
    refine ⟨s, rfl, ⟨rfl, by simp, hl0, hl1⟩, ?_, Only.of_new _ zb, by omega, z0, z1⟩
    refine (HH.out.mono (H := fun k => F k ∧ k < w.heap.size) (fun k hk e => ⟨e, hk.lt⟩)).only (Only.of_new (fun _ => False) zb) (fun _ _ _ x => x) |>.mono (fun k _ e => .inl e)
  case assign =>
    intro l x W K hK
    dsimp only [secV]
    gi_wp2
    exact hK
  case body =>
    rintro l pre x W ⟨s1, hrun, hf, hD, hO, hsz, hb0, hb1⟩ hlen
    have hD' : DiskAt (Gr F w W) W d s1 := hD.mono (fun k hk e => ⟨e, hk⟩)
    have HPW := powered_any (Gr F w W) W d s1 hD' hf.left0 hf.left1
    have cb0 := blk_cell hb0 0
    simp at cb0
    have bx : ∀ W1, Only (Gr F w W) W W1 → W1.cell? ⟨w.heap.size, 0, none⟩ = some (.pointer (some ⟨d, 0, none⟩)) ∧ W1.cell? ⟨w.heap.size + 1, 0, none⟩ = some (.bool false) ∧ W1.frozen? ⟨w.heap.size + 1, 0, none⟩ = false := fun W1 h1 => by
      have e0 := (round_box h1 hsz w.heap.size (by omega) (by omega)).trans hb0
      have e1 := (round_box h1 hsz (w.heap.size + 1) (by omega) (by omega)).trans hb1
      exact ⟨by rw [blk_cell e0]; rfl, by rw [blk_cell e1]; rfl, blk_free e1 0⟩
    have BX := Hid.mk bx
    clear bx
    cases hp : (pow s1).1 with
    | false =>
      rw [hp] at HPW
      have HP := Hid.mk HPW
      have HPF := Hid.mk hp
      clear HPW hp
      gi_wp2_with (refine ⟨trivial, ?_⟩; gi_at_call 35; refine (CallsIn.inRound l (callsIn_wide.2 HP.out)).mono ?_; rintro e W1 ⟨rfl, hD1, hO1⟩; have hc1 := (BX.out W1 hO1).2.1; have hf1 := (BX.out W1 hO1).2.2)
      exact round_stop x hrun HPF.out hO hsz hb1 hD1 hO1
    | true =>
      rw [hp] at HPW
      have HP := Hid.mk HPW
      clear HPW
      gi_wp2_with (first | (refine ⟨trivial, ?_⟩; gi_at_call 35; refine (CallsIn.inRound l (callsIn_wide.2 HP.out)).mono ?_; rintro e W1 ⟨rfl, hD1, hO1⟩; have hc1 := (BX.out W1 hO1).1; have HP2 := Hid.mk (round_put x hn hlog hlen hblk hx haF ha HC.out hf hO hD1 hO1)) | (refine ⟨trivial, ?_⟩; gi_at_call 36; refine (CallsIn.inRound l (callsIn_wide.2 HP2.out)).mono ?_; rintro e W2 ⟨rfl, hD2, hO2⟩))
      exact round_go x hx hblk hrun hf hp hO hsz hb0 hb1 hO1 hD2 hO2
  case done =>
    rintro D ys W hD rfl ⟨s1, hrun, hf, hDk, hO, hsz, hb0, hb1⟩ hK
    have hc1 := blk_cell hb1 0
    have hf1 := blk_free hb1 0
    simp at hc1
    gi_wp2
    have e1 := blk_set (i := 0) (u := .bool true) hb1
    have hc2 : (W.setCell ⟨w.heap.size + 1, 0, none⟩ (.bool true)).cell? ⟨w.heap.size + 1, 0, none⟩ = some (.bool true) := by rw [blk_cell e1]; rfl
    have hK' := (KeepsOthers.setCell W ⟨w.heap.size + 1, 0, none⟩ (.bool true)).same D _ hK rfl
    have hnc : ∀ r, some D = some r → ∃ o : Obj, (W.setCell ⟨w.heap.size + 1, 0, none⟩ (.bool true)).heap[r]? = some o ∧ o.isCells = false := fun r e => by cases e; exact ⟨_, hK', rfl⟩
    have hc5 := cell_kept hc2 (grownBy_putObj' _ D (.deferred none)) hnc
    refine ⟨by simp, .inl ⟨_, _, rfl, run_takeDeferred hK', ?_⟩⟩
    have hws := writeS_done hrun
    refine ⟨.bool true, ?_, by rw [hws], ?_, ?_⟩
    · simp [results, Try.f18, go_sem, hc5]
    · rw [hws]
      refine DiskAt.nocells (W := W.setCell ⟨w.heap.size + 1, 0, none⟩ (.bool true)) ?_ (grownBy_putObj' _ D (.deferred none)) hnc
      refine (hDk.at (fun k e => Below.heap_setCell _ _ _ _ (fun h => ?_))).mono (fun k _ e => ?_)
      · rcases e with e | e
        · simp at h; omega
        · simp at h; omega
      · rcases e with e | e
        · exact .inl e.1
        · exact .inr (by omega)
    · exact (hO.setCell (.inr (by simp)) _).grown (grownBy_putObj' _ D (.deferred none)) (fun k e => by cases e; exact .inr (by omega))
  case stop =>
    rintro D c pre W hD hpre ⟨rfl, p, x, s1, hpx, hrun, hp, hDk, hO, hsz, hb1⟩ hK
    have hc1 := blk_cell hb1 0
    simp at hc1
    gi_wp2
    have hnc : ∀ r, some D = some r → ∃ o : Obj, W.heap[r]? = some o ∧ o.isCells = false := fun r e => by cases e; exact ⟨_, hK, rfl⟩
    have hc5 := cell_kept hc1 (grownBy_putObj' _ D (.deferred none)) hnc
    refine ⟨by simp, .inl ⟨_, _, rfl, run_takeDeferred hK, ?_⟩⟩
    have hws := writeS_stop hpre hpx hrun hp
    refine ⟨.bool false, ?_, by rw [hws], ?_, ?_⟩
    · simp [results, Try.f18, go_sem, hc5]
    · rw [hws]
      refine DiskAt.nocells (W := W) ?_ (grownBy_putObj' _ D (.deferred none)) hnc
      refine hDk.mono (fun k _ e => ?_)
      rcases e with e | e
      · exact .inl e.1
      · exact .inr (by omega)
    · exact hO.grown (grownBy_putObj' _ D (.deferred none)) (fun k e => by cases e; exact .inr (by omega))
end Dk
end Go.Proofs.Ytmbhjheoomlggaa
