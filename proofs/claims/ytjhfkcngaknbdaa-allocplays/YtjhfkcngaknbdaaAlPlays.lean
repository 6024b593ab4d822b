/-
  AllocPlays: every row of calls, held against the reference.
-/
import Derived.Test.YtjhfkcngaknbdaaAlPy
namespace Go.Proofs.Ytjhfkcngaknbdaa
open Go Go.Proofs Go.RowKit Go.Shelf

/-- The same with the box of one call. -/
structure Pz (w W : World) (b b2 r s u : Nat) (G I D : Int) (g i d N M : Nat) (ti td oi od ri rd : Nat → Bool) (x : Nat) (V : ActV) : Prop where
  py : Py w W b b2 r s u G I D g i d N M ti td oi od ri rd
  xa : XAt W x V
  nx : x ≠ b ∧ x ≠ b2 ∧ x ≠ s ∧ x ≠ u
section
variable {w W W' : World} {b b2 r s u : Nat} {G I D : Int} {g i d N M : Nat} {ti td oi od ri rd : Nat → Bool} {x : Nat} {V : ActV}
theorem Pz.new (h : Pz w W b b2 r s u G I D g i d N M ti td oi od ri rd x V) (hB : Below W.heap.size W W') : Pz w W' b b2 r s u G I D g i d N M ti td oi od ri rd x V :=
  ⟨h.py.new hB, (hB.block x (lt_of_block h.xa)).trans h.xa, h.nx⟩
theorem Pz.turnA (h : Pz w W b b2 r s u G I D g i d N M ti td oi od ri rd x V) {ti' td' : Nat → Bool} (hA : AlAt W' b g i d ti' td') (ho : Only (fun k => k = b) W W') : Pz w W' b b2 r s u G I D g i d N M ti' td' oi od ri rd x V :=
  ⟨h.py.turnA hA ho, (ho.block x (lt_of_block h.xa) h.nx.1).trans h.xa, h.nx⟩
theorem Pz.turnO (h : Pz w W b b2 r s u G I D g i d N M ti td oi od ri rd x V) {oi' od' : Nat → Bool} (hA : AlAt W' b2 g i d oi' od') (ho : Only (fun k => k = b2) W W') : Pz w W' b b2 r s u G I D g i d N M ti td oi' od' ri rd x V :=
  ⟨h.py.turnO hA ho, (ho.block x (lt_of_block h.xa) h.nx.2.1).trans h.xa, h.nx⟩
theorem Pz.turnR (h : Pz w W b b2 r s u G I D g i d N M ti td oi od ri rd x V) {ri' rd' : Nat → Bool} (hR : RfAt W' r s u G I D N M ri' rd') (ho : Only (fun k => k = s ∨ k = u) W W') : Pz w W' b b2 r s u G I D g i d N M ti td oi od ri' rd' x V :=
  ⟨h.py.turnR hR ho, (ho.block x (lt_of_block h.xa) (by have := h.nx; omega)).trans h.xa, h.nx⟩
theorem Pz.oI (h : Pz w W b b2 r s u G I D g i d N M ti td oi od ri rd x V) : Calls Try.prog 11 #[.pointer (some ⟨b2, 0, none⟩), .int .i64 0] W fun e w' => ∃ v oi', e = .returned v ∧ Pz w w' b b2 r s u G I D g i d N M ti td oi' od ri rd x V := by
  refine (inode_any W b2 g i d oi od h.py.o 0).mono ?_
  rintro e w' ⟨rfl, hA, hO⟩
  exact ⟨_, _, rfl, h.turnO hA hO⟩
theorem Pz.oB (h : Pz w W b b2 r s u G I D g i d N M ti td oi od ri rd x V) : Calls Try.prog 12 #[.pointer (some ⟨b2, 0, none⟩), .int .i64 0] W fun e w' => ∃ v od', e = .returned v ∧ Pz w w' b b2 r s u G I D g i d N M ti td oi od' ri rd x V := by
  refine (block_any W b2 g i d oi od h.py.o 0).mono ?_
  rintro e w' ⟨rfl, hA, hO⟩
  exact ⟨_, _, rfl, h.turnO hA hO⟩
theorem Pz.aI (h : Pz w W b b2 r s u G I D g i d N M ti td oi od ri rd x V) (gr : Int) : Calls Try.prog 11 #[.pointer (some ⟨b, 0, none⟩), .int .i64 gr] W fun e w' => e = .returned (.tuple #[.int .i64 (inX (nxI g i ti gr)), .bool (inB (nxI g i ti gr))]) ∧ Pz w w' b b2 r s u G I D g i d N M (updO ti (nxI g i ti gr)) td oi od ri rd x V := by
  refine (inode_any W b g i d ti td h.py.a gr).mono ?_
  rintro e w' ⟨rfl, hA, hO⟩
  exact ⟨by rw [inR_is], h.turnA hA hO⟩
theorem Pz.rI (h : Pz w W b b2 r s u G I D g i d N M ti td oi od ri rd x V) (hg : Geo2 G I D g i d) (hN : N = g * (16 * i)) (gr : Int) : Calls Try.prog 13 #[.pointer (some ⟨r, 0, none⟩), .int .i64 gr] W fun e w' => e = .returned (.tuple #[.int .i64 (inX (nxI g i ri gr)), .bool (inB (nxI g i ri gr))]) ∧ Pz w w' b b2 r s u G I D g i d N M ti td oi od (updO ri (nxI g i ri gr)) rd x V := by
  refine (rinode_any W r s u G I D g i d hg ri rd N M hN h.py.rf gr).mono ?_
  rintro e w' ⟨rfl, hA, _, hO⟩
  exact ⟨by rw [inR_is], h.turnR hA (hO.mono (fun _ _ e => .inl e))⟩
theorem Pz.aB (h : Pz w W b b2 r s u G I D g i d N M ti td oi od ri rd x V) (gr : Int) : Calls Try.prog 12 #[.pointer (some ⟨b, 0, none⟩), .int .i64 gr] W fun e w' => e = .returned (.tuple #[.int .i64 (blX g i d (nxD g d td gr)), .bool (blB g i d (nxD g d td gr))]) ∧ Pz w w' b b2 r s u G I D g i d N M ti (updO td (nxD g d td gr)) oi od ri rd x V := by
  refine (block_any W b g i d ti td h.py.a gr).mono ?_
  rintro e w' ⟨rfl, hA, hO⟩
  exact ⟨by rw [blR_is], h.turnA hA hO⟩
theorem Pz.rB (h : Pz w W b b2 r s u G I D g i d N M ti td oi od ri rd x V) (hg : Geo2 G I D g i d) (hM : M = g * d) (gr : Int) : Calls Try.prog 14 #[.pointer (some ⟨r, 0, none⟩), .int .i64 gr] W fun e w' => e = .returned (.tuple #[.int .i64 (blX g i d (nxD g d rd gr)), .bool (blB g i d (nxD g d rd gr))]) ∧ Pz w w' b b2 r s u G I D g i d N M ti td oi od ri (updO rd (nxD g d rd gr)) x V := by
  refine (rtake_any W r s u G I D g i d hg ri rd N M hM h.py.rf gr).mono ?_
  rintro e w' ⟨rfl, hA, hO⟩
  exact ⟨by rw [blR_is], h.turnR hA (hO.mono (fun _ _ e => .inr e))⟩
theorem Pz.aT (h : Pz w W b b2 r s u G I D g i d N M ti td oi od ri rd x V) (io bk : Int) (hi : I64 io) : Calls Try.prog 15 #[.pointer (some ⟨b, 0, none⟩), .int .i64 io, .int .i64 bk] W fun e w' => e = .returned (.bool (tnG g i d ti td io bk true)) ∧ Pz w w' b b2 r s u G I D g i d N M (tuI g i d ti td io bk true) (tuD g i d ti td io bk true) oi od ri rd x V := by
  refine (take_any W b g i d ti td h.py.a io bk hi).mono ?_
  rintro e w' ⟨rfl, hA, hO⟩
  exact ⟨rfl, h.turnA hA hO⟩
theorem Pz.aG (h : Pz w W b b2 r s u G I D g i d N M ti td oi od ri rd x V) (io bk : Int) (hi : I64 io) : Calls Try.prog 17 #[.pointer (some ⟨b, 0, none⟩), .int .i64 io, .int .i64 bk] W fun e w' => e = .returned (.bool (tnG g i d ti td io bk false)) ∧ Pz w w' b b2 r s u G I D g i d N M (tuI g i d ti td io bk false) (tuD g i d ti td io bk false) oi od ri rd x V := by
  refine (give_any W b g i d ti td h.py.a io bk hi).mono ?_
  rintro e w' ⟨rfl, hA, hO⟩
  exact ⟨rfl, h.turnA hA hO⟩
theorem Pz.rS (h : Pz w W b b2 r s u G I D g i d N M ti td oi od ri rd x V) (hg : Geo2 G I D g i d) (hN : N = g * (16 * i)) (hM : M = g * d) (io bk : Int) (hi : I64 io) (on : Bool) : Calls Try.prog 16 #[.pointer (some ⟨r, 0, none⟩), .int .i64 io, .int .i64 bk, .bool on] W fun e w' => e = .returned (.bool (tnG g i d ri rd io bk on)) ∧ Pz w w' b b2 r s u G I D g i d N M ti td oi od (tuI g i d ri rd io bk on) (tuD g i d ri rd io bk on) x V := by
  refine (rset_any W r s u G I D g i d hg ri rd N M hN hM h.py.rf io bk hi on).mono ?_
  rintro e w' ⟨rfl, hA, hO⟩
  exact ⟨rfl, h.turnR hA hO⟩
theorem Pz.aF (h : Pz w W b b2 r s u G I D g i d N M ti td oi od ri rd x V) (hN : N = g * (16 * i)) (hM : M = g * d) : Calls Try.prog 18 #[.pointer (some ⟨b, 0, none⟩)] W fun e w' => e = .returned (.tuple #[.int .i64 ((freeN ti N : Nat) : Int), .int .i64 ((freeN td M : Nat) : Int)]) ∧ Pz w w' b b2 r s u G I D g i d N M ti td oi od ri rd x V := by
  refine (free2_any W b g i d ti td h.py.a).mono ?_
  rintro e w' ⟨rfl, hB⟩
  exact ⟨by rw [hN, hM], h.new hB⟩
theorem Pz.rF (h : Pz w W b b2 r s u G I D g i d N M ti td oi od ri rd x V) (hb : N ≤ 8000 ∧ M ≤ 8000) : Calls Try.prog 19 #[.pointer (some ⟨r, 0, none⟩)] W fun e w' => e = .returned (.tuple #[.int .i64 ((freeN ri N : Nat) : Int), .int .i64 ((freeN rd M : Nat) : Int)]) ∧ Pz w w' b b2 r s u G I D g i d N M ti td oi od ri rd x V := by
  refine (rfree_any W r s u G I D ri rd N M hb h.py.rf).mono ?_
  rintro e w' ⟨rfl, hw⟩
  subst hw
  exact ⟨rfl, h⟩
end
theorem wpL_convB {w : World} {ops : Array Oper} {rest : List Oper} {o : Oper} {a : Act} {Q : Exit → Act → World → Prop} (x : Operand) (ho : o.op = .convert 39 9 x) (hw : Region.wanted o (yielded ops a.tmps) = true) (ao : Option Addr) (n c : Nat) (xs : List Int) (hx : a.eval x = .slice ao n c) (hB : BAt w ao n xs) (SX : ByteArray) (hS : SX = strOfNums xs) (h : wpList Try.prog ops Q rest (a.put o.dst (.string SX)) w) : wpList Try.prog ops Q (o :: rest) a w := by
  subst hS
  exact wpList_knownA hw _ _ (exec_convert ho hx (conv_bytes w ao n c xs hB)) h
theorem Geo2.hds {G I D : Int} {g i d : Nat} (h : Geo2 G I D g i d) (z : Int) : hdB G I D z = hdB g i d z := by
  rcases h with ⟨hg, rfl, rfl, rfl⟩ | ⟨hg, rfl, rfl, rfl⟩
  · rfl
  · unfold hdB; rw [hg]; rfl
theorem BAt.nil (W : World) : BAt W none 0 [] := ⟨rfl, fun h => absurd h (Nat.lt_irrefl 0)⟩
/-- What the two Bits hand over. -/
def BpAt (wr W : World) (i d q : Nat) (ti td : Nat → Bool) (a1 : Option Addr) (a2 : Option Addr) (gy L : Nat) : Prop :=
  (∃ xs, BAt W a1 8 xs ∧ RowIs 8 (16 * i) ti q xs) ∧ (∃ ys, BAt W a2 L ys ∧ RowIs L d td q ys) ∧ a2 = some ⟨gy, 0, none⟩ ∧ wr.heap.size ≤ gy ∧ Bytex W gy L ∧ Below wr.heap.size wr W
theorem Py.bitsA {w wr : World} {b b2 r s u : Nat} {G I D : Int} {g i d N M : Nat} {ti td oi od ri rd : Nat → Bool} (h : Py w wr b b2 r s u G I D g i d N M ti td oi od ri rd) (q : Nat) (hq : q < g) (hd0 : 0 < d) :
    Calls Try.prog 20 #[.pointer (some ⟨b, 0, none⟩), .int .i64 q] wr fun e w' => ∃ a1 k1 gy k2, e = .returned (.tuple #[.slice a1 8 k1, .slice (some ⟨gy, 0, none⟩) (byt d) k2]) ∧ Hid (BpAt wr w' i d q ti td a1 (some ⟨gy, 0, none⟩) gy (byt d)) := by
  refine (abits_yes wr b g i d ti td h.a q hq).mono ?_
  rintro e w' ⟨v1, v2, rfl, hBt, hB⟩
  obtain ⟨⟨xs, o1, r1⟩, ⟨ys, o2, r2⟩⟩ := hBt
  obtain ⟨a1, k1, rfl, b1, _, _⟩ := owns_BAt o1
  have hL : 0 < byt d := by unfold byt; omega
  obtain ⟨gy, k2, rfl, hg, hlt, _, _, hc⟩ := owns_bytes o2 (by
    intro hv
    obtain ⟨ao', c', e', _, _, hp⟩ := owns_BAt o2
    rw [hv] at e'
    injection e' with e1 e2 e3
    exact hp hL e1.symm)
  obtain ⟨a2, k2', e2, b2', _, _⟩ := owns_BAt o2
  cases e2
  exact ⟨a1, k1, gy, k2, rfl, Hid.mk ⟨⟨xs, b1, r1⟩, ⟨ys, b2', r2⟩, rfl, hg, owns_bytex o2 gy rfl, hB⟩⟩
theorem Bytex.keep {W W' : World} {g n : Nat} (h : Bytex W g n) (e : W'.heap[g]? = W.heap[g]?) : Bytex W' g n := by
  obtain ⟨cur, h1, h2⟩ := h
  exact ⟨cur, e.trans h1, h2⟩
theorem Bytex.lt {W : World} {g n : Nat} (h : Bytex W g n) : g < W.heap.size := by
  obtain ⟨cur, h1, h2⟩ := h
  exact lt_of_block h1
theorem BpAt.bitsR {w wr W : World} {b b2 r s u : Nat} {G I D : Int} {g i d N M : Nat} {ti td oi od : Nat → Bool} (hp : Py w wr b b2 r s u G I D g i d N M ti td oi od ti td) (hg2 : Geo2 G I D g i d) (hN : N = g * (16 * i)) (hM : M = g * d) (q : Nat) (hq : q < g) {a1 : Option Addr} {gy : Nat} (h : BpAt wr W i d q ti td a1 (some ⟨gy, 0, none⟩) gy (byt d)) :
    Calls Try.prog 21 #[.pointer (some ⟨r, 0, none⟩), .int .i64 q] W fun e w' => ∃ c1 m1 c2 m2, e = .returned (.tuple #[.slice c1 8 m1, .slice c2 (byt d) m2]) ∧ Hid (∃ xs ys, BAt w' a1 8 xs ∧ BAt w' c1 8 xs ∧ BAt w' (some ⟨gy, 0, none⟩) (byt d) ys ∧ BAt w' c2 (byt d) ys ∧ wr.heap.size ≤ gy ∧ Bytex w' gy (byt d) ∧ Below wr.heap.size wr w') := by
  obtain ⟨⟨xs, x1, x2⟩, ⟨ys, y1, y2⟩, _, hgy, hbx, hB⟩ := h
  have hrf := (hp.rf.below hB)
  obtain ⟨hgd, e1, e2, e3, _, _⟩ := hg2.nums.2.2.2.2.2 (by omega)
  rw [e1, e2, e3] at hrf hgd
  refine (rbits_yes W r s u g i d hgd N M hN hM ti td hrf q hq).mono ?_
  rintro e w' ⟨c1, m1, c2, m2, rfl, ⟨xs', x3, x4⟩, ⟨ys', y3, y4⟩, hB'⟩
  have ex := x2.one x4
  have ey := y2.one y4
  rw [← ex] at x3
  rw [← ey] at y3
  exact ⟨c1, m1, c2, m2, rfl, Hid.mk ⟨xs, ys, x1.only (Only.of_new (fun _ => False) hB') (fun _ _ _ h => h), x3, y1.only (Only.of_new (fun _ => False) hB') (fun _ _ _ h => h), y3, hgy, hbx.keep (hB'.block _ hbx.lt), hB.trans (hB'.mono hB.size)⟩⟩
set_option maxRecDepth 100000 in
set_option maxHeartbeats 4000000 in
theorem plays_out (w : World) (G I D : Int) (ao : Option Addr) (n c : Nat) (h : 300 < n ∨ (good G I D = true ∧ 100 < D)) : Calls Try.prog 3 #[geo G I D, .slice ao n c] w fun e w' => e = .returned (.bool true) ∧ Below w.heap.size w w' := by
  have HAL := Hid.mk (fun W => alive_any W)
  have HGD := Hid.mk (fun W => good_any W G I D)
  by_cases h1 : (300 : Int) < (n : Int)
  · generalize good G I D = gd at *
    clear h
    go_enter Try.func3, Try.ntmps3
    go_wp2_with (first
      | (go_at_call 7; refine (HAL.out _).mono ?_; rintro e w1 ⟨rfl, hB1⟩; obtain ⟨hG1, hB1'⟩ := behind hB1; obtain ⟨c0, c1, c2⟩ := hG1.g3; have HB1 := Hid.mk hB1'; clear hB1 hG1 hB1')
      | (go_at_call 8; refine (HGD.out _).mono ?_; rintro e w2 ⟨rfl, hB2⟩))
    go_ret
    exact ⟨rfl, HB1.out.trans (hB2.mono HB1.out.size)⟩
  · obtain ⟨hg, hD⟩ : good G I D = true ∧ 100 < D := by rcases h with h | h; omega; exact h
    rw [hg] at HGD
    clear h hg
    go_enter Try.func3, Try.ntmps3
    go_wp2_with (first
      | (go_at_call 7; refine (HAL.out _).mono ?_; rintro e w1 ⟨rfl, hB1⟩; obtain ⟨hG1, hB1'⟩ := behind hB1; obtain ⟨c0, c1, c2⟩ := hG1.g3; have HG1 := Hid.mk hG1; have HB1 := Hid.mk hB1'; clear hB1 hG1 hB1')
      | (go_at_call 8; refine (HGD.out _).mono ?_; rintro e w2 ⟨rfl, hB2⟩; obtain ⟨d0, d1, d2⟩ := (HG1.out.below hB2 HG1.out.lt).g3; have HB2 := Hid.mk hB2; clear hB2))
    go_ret
    exact ⟨rfl, HB1.out.trans (HB2.out.mono HB1.out.size)⟩
set_option maxRecDepth 100000 in
set_option maxHeartbeats 16000000 in
theorem plays_in (w : World) (G I D : Int) (g i d : Nat) (hg2 : Geo2 G I D g i d) (hD : good G I D = true → D ≤ 100) (ao : Option Addr) (n c : Nat) (A : Nat → ActV) (hA : ActsAt w ao n A) (hn : n ≤ 300) : Calls Try.prog 3 #[geo G I D, .slice ao n c] w fun e w' => e = .returned (.bool true) ∧ Below w.heap.size w w' := by
  have HAL := Hid.mk (fun W => alive_any W)
  have HGD := Hid.mk (fun W => good_any W G I D)
  obtain ⟨N, hN⟩ : ∃ N, N = g * (16 * i) := ⟨_, rfl⟩
  obtain ⟨M, hM⟩ : ∃ M, M = g * d := ⟨_, rfl⟩
  obtain ⟨nm1, nm2, g8, i4, d1000, hpos⟩ := hg2.nums
  rw [← hN] at nm1
  rw [← hM] at nm2
  have hNM : N ≤ 8000 ∧ M ≤ 8000 := by
    have h1 : g * (16 * i) ≤ 8 * 64 := Nat.mul_le_mul g8 (by omega)
    have h2 : g * d ≤ 8 * 1000 := Nat.mul_le_mul g8 d1000
    omega
  have HNEW : Hid (∀ W, Calls Try.prog 9 #[geo G I D] W fun e w' => ∃ b, e = .returned (.pointer (some ⟨b, 0, none⟩)) ∧ Hid (W.heap.size ≤ b ∧ AlAt w' b g i d noT noT ∧ Below W.heap.size W w')) := Hid.mk (fun W => by
    rcases hg2 with ⟨hg, rfl, rfl, rfl⟩ | ⟨hg, rfl, rfl, rfl⟩
    · refine (new_yes W g i d hg).mono ?_
      rintro e w' ⟨b, rfl, h⟩
      exact ⟨b, rfl, Hid.mk h⟩
    · refine (new_no W G I D hg).mono ?_
      rintro e w' ⟨b, rfl, h⟩
      exact ⟨b, rfl, Hid.mk h⟩)
  have HRN : Hid (∀ W, Calls Try.prog 10 #[geo G I D] W fun e w' => ∃ r s u, e = .returned (.pointer (some ⟨r, 0, none⟩)) ∧ Hid (W.heap.size ≤ r ∧ W.heap.size ≤ s ∧ W.heap.size ≤ u ∧ RfAt w' r s u G I D N M noT noT ∧ Below W.heap.size W w')) := Hid.mk (fun W => rnew_any W G I D N M nm1 nm2 hNM)
  have HQ : Hid (Geo2 G I D g i d ∧ N = g * (16 * i) ∧ M = g * d ∧ N ≤ 8000 ∧ M ≤ 8000) := Hid.mk ⟨hg2, hN, hM, hNM⟩
  have HACT : Hid (∀ W j, Below w.heap.size w W → j < n → ∃ ab off, ao = some ⟨ab, off, none⟩ ∧ W.cell? ⟨ab, off + j * 4, none⟩ = some (.int .i64 (A j).way) ∧ W.cell? ⟨ab, off + j * 4 + 1, none⟩ = some (.int .i64 (A j).grp) ∧ W.cell? ⟨ab, off + j * 4 + 2, none⟩ = some (.int .i64 (A j).ino) ∧ W.cell? ⟨ab, off + j * 4 + 3, none⟩ = some (.int .i64 (A j).blk) ∧ I64 (A j).ino) := Hid.mk (fun W j hB hj => by
    obtain ⟨ab, off, e, hl, hc⟩ := hA (by omega)
    obtain ⟨x0, x1, x2, x3, x4⟩ := hc j hj
    have hb := hB.block ab hl
    exact ⟨ab, off, e, (World.cell?_of_block (w := w) hb).trans x0, (World.cell?_of_block (w := w) hb).trans x1, (World.cell?_of_block (w := w) hb).trans x2, (World.cell?_of_block (w := w) hb).trans x3, x4⟩)
  have h1 : ¬ (300 : Int) < (n : Int) := by omega
  have HN3 := Hid.mk hn
  clear hN hM nm1 nm2 g8 i4 d1000 hpos hNM hg2 hA hn
  have HD : Hid (good G I D = true → ¬ (100 : Int) < D) := Hid.mk (fun h => by have := hD h; omega)
  obtain ⟨gd, hgd⟩ : ∃ gd, gd = good G I D := ⟨_, rfl⟩
  rw [← hgd] at HGD HD
  clear hD hgd
  have KN1 := HNEW
  have KN2 := HNEW
  clear HNEW
  go_enter Try.func3, Try.ntmps3
  go_upto_region 3 with (first
    | (go_at_call 7; refine (HAL.out _).mono ?_; rintro e w1 ⟨rfl, hB1⟩; obtain ⟨hG1, hB1'⟩ := behind hB1; obtain ⟨c0, c1, c2⟩ := hG1.g3; have HG1 := Hid.mk hG1; have HB1 := Hid.mk hB1'; clear hB1 hG1 hB1')
    | (go_at_call 8; refine (HGD.out _).mono ?_; rintro e w2 ⟨rfl, hB2⟩; have hG2 := HG1.out.below hB2 HG1.out.lt; obtain ⟨d0, d1, d2⟩ := hG2.g3; have HG2 := Hid.mk hG2; have HB2 : Hid (Below w.heap.size w w2) := Hid.mk (HB1.out.trans (hB2.mono HB1.out.size)); clear hB2 hG2))
  go_cut [47] from 33 to 47 (fun v wr => v = .bool false ∧ wr = w2)
  case first =>
    cases gd with
    | false =>
      go_wp2
      go_meet
      case rel => exact ⟨by (have := HN3.out; simp; omega), rfl⟩
    | true =>
      have hD2 := HD.out rfl
      go_wp2
      go_meet
      case rel => exact ⟨by (have := HN3.out; simp; omega), rfl⟩
  case rest =>
  obtain ⟨rfl, hwc⟩ := hcut
  have hwc := hwc.symm
  subst hwc
  clear HD HGD
  go_wp2_with (first
    | (go_at_call 9; have KN := KN1; refine (KN.out _).mono ?_; rintro e w3 ⟨b, rfl, H3⟩; have hG3 := HG2.out.below H3.out.2.2 HG2.out.lt; obtain ⟨e0, e1, e2⟩ := hG3.g3; have HG3 := Hid.mk hG3; clear hG3 KN1 KN)
    | (go_at_call 9; have KN := KN2; have hu := HG3; refine (KN.out _).mono ?_; rintro e w4 ⟨b2, rfl, H4⟩; have hG4 := HG3.out.below H4.out.2.2 HG3.out.lt; obtain ⟨f0, f1, f2⟩ := hG4.g3; have HG4 := Hid.mk hG4; clear hG4 KN2 KN hu)
    | (go_at_call 10; refine (HRN.out _).mono ?_; rintro e w5 ⟨r, s, u, rfl, H5⟩))
  have HPY : Hid (Py w w5 b b2 r s u G I D g i d N M noT noT noT noT noT noT) := Hid.mk (by
    obtain ⟨x1, x2, x3⟩ := H3.out
    obtain ⟨y1, y2, y3⟩ := H4.out
    obtain ⟨z1, z2, z3, z4, z5⟩ := H5.out
    have hb2 := HB2.out
    have l1 := x2.lt
    have l2 := y2.lt
    have sz2 := hb2.size
    have sz3 := x3.size
    have sz4 := y3.size
    have sz5 := z5.size
    refine ⟨(x2.below y3).below z5, y2.below z5, z4, ⟨by omega, by omega, by omega, by omega, by omega⟩, ⟨by omega, by omega, by omega, by omega, by omega, by omega, by omega⟩, ((hb2.trans (x3.mono sz2)).trans (y3.mono (by omega))).trans (z5.mono (by omega))⟩)
  clear H3 H4 H5 HG1 HG2 HG3 HG4 HB1 HB2 HRN HAL f0 f1 f2 e0 e1 e2 d0 d1 d2 c0 c1 c2
  go_loopw [10] (fun jv wr => ∃ j : Nat, jv = .int .i64 j ∧ Hid (j ≤ n ∧ ∃ ti td oi od, Py w wr b b2 r s u G I D g i d N M ti td oi od ti td)) (fun jv _ => n - (intOf jv).toNat)
  case atStart => exact ⟨0, rfl, Hid.mk ⟨Nat.zero_le _, noT, noT, noT, noT, HPY.out⟩⟩
  case round =>
    obtain ⟨j, rfl, HJ⟩ := hrel
    obtain ⟨ti, td, oi, od, HP⟩ : ∃ ti td oi od, Hid (Py w wr b b2 r s u G I D g i d N M ti td oi od ti td) := by
      obtain ⟨_, ti, td, oi, od, h⟩ := HJ.out
      exact ⟨ti, td, oi, od, Hid.mk h⟩
    have HJN := Hid.mk HJ.out.1
    clear HJ HPY
    by_cases hlt : (j : Int) < (n : Int)
    · obtain ⟨ab, off, rfl, t0, t1, t2, t3, hio⟩ := HACT.out wr j HP.out.below (by omega)
      obtain ⟨V, hV⟩ : ∃ V, V = A j := ⟨_, rfl⟩
      rw [← hV] at t0 t1 t2 t3 hio
      obtain ⟨wy, gr, io, bk⟩ := V
      dsimp only at t0 t1 t2 t3 hio
      have z1 : (0 : Int) ≤ (j : Int) := by omega
      have z2 : ((j : Int)).toNat = j := by simp
      obtain ⟨j1, hj1⟩ : ∃ m, m = j + 1 := ⟨_, rfl⟩
      have z3 : IntKind.i64.wrap ((j : Int) + 1) = (j1 : Int) := by have := HN3.out; rw [IntKind.wrap_i64]; omega
      have HJ1 : Hid (j1 = j + 1 ∧ j < n) := Hid.mk ⟨hj1, by omega⟩
      have HIO := Hid.mk hio
      obtain ⟨V, hVV⟩ : ∃ V : ActV, V = ⟨wy, gr, io, bk⟩ := ⟨_, rfl⟩
      have HV := Hid.mk hVV
      have HZ0 : Hid (Pz w (wr.alloc (.cells #[.int .i64 wy, .int .i64 gr, .int .i64 io, .int .i64 bk] 32)) b b2 r s u G I D g i d N M ti td oi od ti td wr.heap.size V) := Hid.mk (by
        have hp := HP.out
        have l1 := hp.a.lt
        have l2 := hp.o.lt
        obtain ⟨l3, l4, l5⟩ := hp.rf.lt
        refine ⟨hp.new ((Below.refl _ wr).alloc (Nat.le_refl _) _), ?_, by omega⟩
        rw [hVV]
        exact blk_new wr _)
      have K1 : Hid True := Hid.mk trivial
      have K2 : Hid True := Hid.mk trivial
      have K3 : Hid True := Hid.mk trivial
      clear hV hVV hio hj1 HP HACT
      by_cases y0 : wy = 0
      · subst y0
        obtain ⟨x1, hx1⟩ : ∃ x1, x1 = inX (nxI g i ti gr) := ⟨_, rfl⟩
        obtain ⟨y1, hy1⟩ : ∃ y1, y1 = inB (nxI g i ti gr) := ⟨_, rfl⟩
        obtain ⟨ti2, hti2⟩ : ∃ t, t = updO ti (nxI g i ti gr) := ⟨_, rfl⟩
        obtain ⟨td2, htd2⟩ : ∃ t, t = td := ⟨_, rfl⟩
        have C3 : Hid (∀ W oi od, Pz w W b b2 r s u G I D g i d N M ti td oi od ti td wr.heap.size V → Calls Try.prog 11 #[.pointer (some ⟨b, 0, none⟩), .int .i64 gr] W fun e w' => e = .returned (.tuple #[.int .i64 x1, .bool y1]) ∧ Pz w w' b b2 r s u G I D g i d N M ti2 td2 oi od ti td wr.heap.size V) := Hid.mk (fun W oi od h => by rw [hx1, hy1, hti2, htd2]; exact h.aI gr)
        have C4 : Hid (∀ W oi od, Pz w W b b2 r s u G I D g i d N M ti2 td2 oi od ti td wr.heap.size V → Calls Try.prog 13 #[.pointer (some ⟨r, 0, none⟩), .int .i64 gr] W fun e w' => e = .returned (.tuple #[.int .i64 x1, .bool y1]) ∧ Pz w w' b b2 r s u G I D g i d N M ti2 td2 oi od ti2 td2 wr.heap.size V) := Hid.mk (fun W oi od h => by rw [hti2, htd2] at h ⊢; rw [hx1, hy1]; exact h.rI HQ.out.1 HQ.out.2.1 gr)
        obtain ⟨f1, hf1⟩ : ∃ x, x = freeN ti2 N := ⟨_, rfl⟩
        obtain ⟨f2, hf2⟩ : ∃ x, x = freeN td2 M := ⟨_, rfl⟩
        have C5 : Hid (∀ W oi od, Pz w W b b2 r s u G I D g i d N M ti2 td2 oi od ti2 td2 wr.heap.size V → Calls Try.prog 18 #[.pointer (some ⟨b, 0, none⟩)] W fun e w' => e = .returned (.tuple #[.int .i64 (f1 : Nat), .int .i64 (f2 : Nat)]) ∧ Pz w w' b b2 r s u G I D g i d N M ti2 td2 oi od ti2 td2 wr.heap.size V) := Hid.mk (fun W oi od h => by rw [hf1, hf2]; exact h.aF HQ.out.2.1 HQ.out.2.2.1)
        have C6 : Hid (∀ W oi od, Pz w W b b2 r s u G I D g i d N M ti2 td2 oi od ti2 td2 wr.heap.size V → Calls Try.prog 19 #[.pointer (some ⟨r, 0, none⟩)] W fun e w' => e = .returned (.tuple #[.int .i64 (f1 : Nat), .int .i64 (f2 : Nat)]) ∧ Pz w w' b b2 r s u G I D g i d N M ti2 td2 oi od ti2 td2 wr.heap.size V) := Hid.mk (fun W oi od h => by rw [hf1, hf2]; exact h.rF HQ.out.2.2.2)
        clear hy1 hti2 htd2 hf1 hf2 hx1
        go_wp2_with (first
          | (go_at_call 11; have K := K1; refine (HZ0.out.oI).mono ?_; rintro e w6 ⟨v6, oi6, rfl, h6⟩; have H6 := Hid.mk h6; clear h6 K K1)
          | (go_at_call 12; have K := K2; refine (H6.out.oB).mono ?_; rintro e w7 ⟨v7, od7, rfl, h7⟩; have H7 := Hid.mk h7; obtain ⟨q0, q1, q2, q3⟩ := H7.out.xa.xc; rw [HV.out] at q0 q1 q2 q3; dsimp only at q0 q1 q2 q3; clear h7 K K2)
          | (go_at_call 11; have K := K3; refine (C3.out _ _ _ H7.out).mono ?_; rintro e w8 ⟨rfl, h8⟩; have H8 := Hid.mk h8; obtain ⟨p0, p1, p2, p3⟩ := H8.out.xa.xc; rw [HV.out] at p0 p1 p2 p3; dsimp only at p0 p1 p2 p3; clear h8 K K3)
          | (go_at_call 13; refine (C4.out _ _ _ H8.out).mono ?_; rintro e w9 ⟨rfl, h9⟩; have H9 := Hid.mk h9; clear h9)
          | (go_at_call 18; refine (C5.out _ _ _ H9.out).mono ?_; rintro e w10 ⟨rfl, h10⟩; have H10 := Hid.mk h10; clear h10)
          | (go_at_call 19; refine (C6.out _ _ _ H10.out).mono ?_; rintro e w11 ⟨rfl, h11⟩; have H11 := Hid.mk h11; clear h11))
        go_roundw
        case rel =>
          obtain ⟨e1, e2⟩ := HJ1.out
          exact ⟨j1, rfl, Hid.mk ⟨by omega, ti2, td2, _, _, H11.out.py⟩⟩
        case measure => (have := HJ1.out; clear H11; simp [intOf]; omega)
      have y0' : (wy == 0) = false := by simpa using y0
      by_cases ya : wy = 1
      · subst ya
        obtain ⟨x1, hx1⟩ : ∃ x1, x1 = blX g i d (nxD g d td gr) := ⟨_, rfl⟩
        obtain ⟨y1, hy1⟩ : ∃ y1, y1 = blB g i d (nxD g d td gr) := ⟨_, rfl⟩
        obtain ⟨ti2, hti2⟩ : ∃ t, t = ti := ⟨_, rfl⟩
        obtain ⟨td2, htd2⟩ : ∃ t, t = updO td (nxD g d td gr) := ⟨_, rfl⟩
        have C3 : Hid (∀ W oi od, Pz w W b b2 r s u G I D g i d N M ti td oi od ti td wr.heap.size V → Calls Try.prog 12 #[.pointer (some ⟨b, 0, none⟩), .int .i64 gr] W fun e w' => e = .returned (.tuple #[.int .i64 x1, .bool y1]) ∧ Pz w w' b b2 r s u G I D g i d N M ti2 td2 oi od ti td wr.heap.size V) := Hid.mk (fun W oi od h => by rw [hx1, hy1, hti2, htd2]; exact h.aB gr)
        have C4 : Hid (∀ W oi od, Pz w W b b2 r s u G I D g i d N M ti2 td2 oi od ti td wr.heap.size V → Calls Try.prog 14 #[.pointer (some ⟨r, 0, none⟩), .int .i64 gr] W fun e w' => e = .returned (.tuple #[.int .i64 x1, .bool y1]) ∧ Pz w w' b b2 r s u G I D g i d N M ti2 td2 oi od ti2 td2 wr.heap.size V) := Hid.mk (fun W oi od h => by rw [hti2, htd2] at h ⊢; rw [hx1, hy1]; exact h.rB HQ.out.1 HQ.out.2.2.1 gr)
        obtain ⟨f1, hf1⟩ : ∃ x, x = freeN ti2 N := ⟨_, rfl⟩
        obtain ⟨f2, hf2⟩ : ∃ x, x = freeN td2 M := ⟨_, rfl⟩
        have C5 : Hid (∀ W oi od, Pz w W b b2 r s u G I D g i d N M ti2 td2 oi od ti2 td2 wr.heap.size V → Calls Try.prog 18 #[.pointer (some ⟨b, 0, none⟩)] W fun e w' => e = .returned (.tuple #[.int .i64 (f1 : Nat), .int .i64 (f2 : Nat)]) ∧ Pz w w' b b2 r s u G I D g i d N M ti2 td2 oi od ti2 td2 wr.heap.size V) := Hid.mk (fun W oi od h => by rw [hf1, hf2]; exact h.aF HQ.out.2.1 HQ.out.2.2.1)
        have C6 : Hid (∀ W oi od, Pz w W b b2 r s u G I D g i d N M ti2 td2 oi od ti2 td2 wr.heap.size V → Calls Try.prog 19 #[.pointer (some ⟨r, 0, none⟩)] W fun e w' => e = .returned (.tuple #[.int .i64 (f1 : Nat), .int .i64 (f2 : Nat)]) ∧ Pz w w' b b2 r s u G I D g i d N M ti2 td2 oi od ti2 td2 wr.heap.size V) := Hid.mk (fun W oi od h => by rw [hf1, hf2]; exact h.rF HQ.out.2.2.2)
        clear hy1 hti2 htd2 hf1 hf2 hx1
        go_wp2_with (first
          | (go_at_call 11; have K := K1; refine (HZ0.out.oI).mono ?_; rintro e w6 ⟨v6, oi6, rfl, h6⟩; have H6 := Hid.mk h6; clear h6 K K1)
          | (go_at_call 12; have K := K2; refine (H6.out.oB).mono ?_; rintro e w7 ⟨v7, od7, rfl, h7⟩; have H7 := Hid.mk h7; obtain ⟨q0, q1, q2, q3⟩ := H7.out.xa.xc; rw [HV.out] at q0 q1 q2 q3; dsimp only at q0 q1 q2 q3; clear h7 K K2)
          | (go_at_call 12; have K := K3; refine (C3.out _ _ _ H7.out).mono ?_; rintro e w8 ⟨rfl, h8⟩; have H8 := Hid.mk h8; obtain ⟨p0, p1, p2, p3⟩ := H8.out.xa.xc; rw [HV.out] at p0 p1 p2 p3; dsimp only at p0 p1 p2 p3; clear h8 K K3)
          | (go_at_call 14; refine (C4.out _ _ _ H8.out).mono ?_; rintro e w9 ⟨rfl, h9⟩; have H9 := Hid.mk h9; clear h9)
          | (go_at_call 18; refine (C5.out _ _ _ H9.out).mono ?_; rintro e w10 ⟨rfl, h10⟩; have H10 := Hid.mk h10; clear h10)
          | (go_at_call 19; refine (C6.out _ _ _ H10.out).mono ?_; rintro e w11 ⟨rfl, h11⟩; have H11 := Hid.mk h11; clear h11))
        go_roundw
        case rel =>
          obtain ⟨e1, e2⟩ := HJ1.out
          exact ⟨j1, rfl, Hid.mk ⟨by omega, ti2, td2, _, _, H11.out.py⟩⟩
        case measure => (have := HJ1.out; clear H11; simp [intOf]; omega)
      have ya' : (wy == 1) = false := by simpa using ya
      by_cases yb : wy = 2
      · subst yb
        obtain ⟨y1, hy1⟩ : ∃ y1, y1 = tnG g i d ti td io bk true := ⟨_, rfl⟩
        obtain ⟨ti2, hti2⟩ : ∃ t, t = tuI g i d ti td io bk true := ⟨_, rfl⟩
        obtain ⟨td2, htd2⟩ : ∃ t, t = tuD g i d ti td io bk true := ⟨_, rfl⟩
        have C3 : Hid (∀ W oi od, Pz w W b b2 r s u G I D g i d N M ti td oi od ti td wr.heap.size V → Calls Try.prog 15 #[.pointer (some ⟨b, 0, none⟩), .int .i64 io, .int .i64 bk] W fun e w' => e = .returned (.bool y1) ∧ Pz w w' b b2 r s u G I D g i d N M ti2 td2 oi od ti td wr.heap.size V) := Hid.mk (fun W oi od h => by rw [hy1, hti2, htd2]; exact h.aT io bk HIO.out)
        have C4 : Hid (∀ W oi od, Pz w W b b2 r s u G I D g i d N M ti2 td2 oi od ti td wr.heap.size V → Calls Try.prog 16 #[.pointer (some ⟨r, 0, none⟩), .int .i64 io, .int .i64 bk, .bool true] W fun e w' => e = .returned (.bool y1) ∧ Pz w w' b b2 r s u G I D g i d N M ti2 td2 oi od ti2 td2 wr.heap.size V) := Hid.mk (fun W oi od h => by rw [hti2, htd2] at h ⊢; rw [hy1]; exact h.rS HQ.out.1 HQ.out.2.1 HQ.out.2.2.1 io bk HIO.out true)
        obtain ⟨f1, hf1⟩ : ∃ x, x = freeN ti2 N := ⟨_, rfl⟩
        obtain ⟨f2, hf2⟩ : ∃ x, x = freeN td2 M := ⟨_, rfl⟩
        have C5 : Hid (∀ W oi od, Pz w W b b2 r s u G I D g i d N M ti2 td2 oi od ti2 td2 wr.heap.size V → Calls Try.prog 18 #[.pointer (some ⟨b, 0, none⟩)] W fun e w' => e = .returned (.tuple #[.int .i64 (f1 : Nat), .int .i64 (f2 : Nat)]) ∧ Pz w w' b b2 r s u G I D g i d N M ti2 td2 oi od ti2 td2 wr.heap.size V) := Hid.mk (fun W oi od h => by rw [hf1, hf2]; exact h.aF HQ.out.2.1 HQ.out.2.2.1)
        have C6 : Hid (∀ W oi od, Pz w W b b2 r s u G I D g i d N M ti2 td2 oi od ti2 td2 wr.heap.size V → Calls Try.prog 19 #[.pointer (some ⟨r, 0, none⟩)] W fun e w' => e = .returned (.tuple #[.int .i64 (f1 : Nat), .int .i64 (f2 : Nat)]) ∧ Pz w w' b b2 r s u G I D g i d N M ti2 td2 oi od ti2 td2 wr.heap.size V) := Hid.mk (fun W oi od h => by rw [hf1, hf2]; exact h.rF HQ.out.2.2.2)
        clear hy1 hti2 htd2 hf1 hf2
        go_wp2_with (first
          | (go_at_call 11; have K := K1; refine (HZ0.out.oI).mono ?_; rintro e w6 ⟨v6, oi6, rfl, h6⟩; have H6 := Hid.mk h6; clear h6 K K1)
          | (go_at_call 12; have K := K2; refine (H6.out.oB).mono ?_; rintro e w7 ⟨v7, od7, rfl, h7⟩; have H7 := Hid.mk h7; obtain ⟨q0, q1, q2, q3⟩ := H7.out.xa.xc; rw [HV.out] at q0 q1 q2 q3; dsimp only at q0 q1 q2 q3; clear h7 K K2))
        have HZD : Pz w w7.drew b b2 r s u G I D g i d N M ti td oi6 od7 ti td wr.heap.size V := H7.out.new ((Below.refl _ w7).drew)
        refine wp_region_held_drew (S := fun W => XC W wr.heap.size V) (by kernel_rfl) HZD.xa.xc (fun hH => ?_)
        change wpAnyH Try.prog Region.Mode.any _ _ _ 13 _ _ _
        refine takeH 0 140 (.pointer (some ⟨b, 0, none⟩)) rfl (by kernel_rfl) (by kernel_rfl) (by kernel_rfl) (by kernel_rfl) (fun _ _ _ h => h) (by kernel_rfl) (fun w hw => by kernel_rfl) hH ?_
        simp only [List.setIfInBounds_toArray, List.set_cons_zero, List.set_cons_succ]
        refine takeH 1 141 (.pointer (some ⟨wr.heap.size, 2, none⟩)) rfl (by kernel_rfl) (by kernel_rfl) (by kernel_rfl) (by kernel_rfl) (fun _ _ _ h => h) (by kernel_rfl) (fun w hw => by (try dsimp only at hw); go_simp) hH ?_
        simp only [List.setIfInBounds_toArray, List.set_cons_zero, List.set_cons_succ]
        refine takeH 2 142 (.int .i64 io) rfl (by kernel_rfl) (by kernel_rfl) (by kernel_rfl) (by kernel_rfl) (fun _ _ _ h => h) (by kernel_rfl) (fun w hw => by obtain ⟨q0, q1, q2, q3⟩ := hw; rw [HV.out] at q0 q1 q2 q3; dsimp only at q0 q1 q2 q3; go_simp) hH ?_
        simp only [List.setIfInBounds_toArray, List.set_cons_zero, List.set_cons_succ]
        refine takeH 3 143 (.pointer (some ⟨wr.heap.size, 3, none⟩)) rfl (by kernel_rfl) (by kernel_rfl) (by kernel_rfl) (by kernel_rfl) (fun _ _ _ h => h) (by kernel_rfl) (fun w hw => by (try dsimp only at hw); go_simp) hH ?_
        simp only [List.setIfInBounds_toArray, List.set_cons_zero, List.set_cons_succ]
        refine takeH 4 144 (.int .i64 bk) rfl (by kernel_rfl) (by kernel_rfl) (by kernel_rfl) (by kernel_rfl) (fun _ _ _ h => h) (by kernel_rfl) (fun w hw => by obtain ⟨q0, q1, q2, q3⟩ := hw; rw [HV.out] at q0 q1 q2 q3; dsimp only at q0 q1 q2 q3; go_simp) hH ?_
        simp only [List.setIfInBounds_toArray, List.set_cons_zero, List.set_cons_succ]
        refine takeH 6 146 (.pointer (some ⟨r, 0, none⟩)) rfl (by kernel_rfl) (by kernel_rfl) (by kernel_rfl) (by kernel_rfl) (fun _ _ _ h => h) (by kernel_rfl) (fun w hw => by kernel_rfl) hH ?_
        simp only [List.setIfInBounds_toArray, List.set_cons_zero, List.set_cons_succ]
        refine takeH 7 147 (.pointer (some ⟨wr.heap.size, 2, none⟩)) rfl (by kernel_rfl) (by kernel_rfl) (by kernel_rfl) (by kernel_rfl) (fun _ _ _ h => h) (by kernel_rfl) (fun w hw => by (try dsimp only at hw); go_simp) hH ?_
        simp only [List.setIfInBounds_toArray, List.set_cons_zero, List.set_cons_succ]
        refine takeH 8 148 (.int .i64 io) rfl (by kernel_rfl) (by kernel_rfl) (by kernel_rfl) (by kernel_rfl) (fun _ _ _ h => h) (by kernel_rfl) (fun w hw => by obtain ⟨q0, q1, q2, q3⟩ := hw; rw [HV.out] at q0 q1 q2 q3; dsimp only at q0 q1 q2 q3; go_simp) hH ?_
        simp only [List.setIfInBounds_toArray, List.set_cons_zero, List.set_cons_succ]
        refine takeH 9 149 (.pointer (some ⟨wr.heap.size, 3, none⟩)) rfl (by kernel_rfl) (by kernel_rfl) (by kernel_rfl) (by kernel_rfl) (fun _ _ _ h => h) (by kernel_rfl) (fun w hw => by (try dsimp only at hw); go_simp) hH ?_
        simp only [List.setIfInBounds_toArray, List.set_cons_zero, List.set_cons_succ]
        refine takeH 10 150 (.int .i64 bk) rfl (by kernel_rfl) (by kernel_rfl) (by kernel_rfl) (by kernel_rfl) (fun _ _ _ h => h) (by kernel_rfl) (fun w hw => by obtain ⟨q0, q1, q2, q3⟩ := hw; rw [HV.out] at q0 q1 q2 q3; dsimp only at q0 q1 q2 q3; go_simp) hH ?_
        simp only [List.setIfInBounds_toArray, List.set_cons_zero, List.set_cons_succ]
        refine stepH_call 5 145 rfl (by kernel_rfl) (by kernel_rfl) (by kernel_rfl) 15 #[.tmp 140, .tmp 142, .tmp 144] #[27, 3, 3] (by kernel_rfl) (enters_of Try.func15 (by kernel_rfl) rfl) #[.pointer (some ⟨b, 0, none⟩), .int .i64 io, .int .i64 bk] (by kernel_rfl) (C3.out _ _ _ HZD) ?_
        rintro e w8 ⟨rfl, h8⟩
        have hH8 : XC w8 wr.heap.size V := h8.xa.xc
        refine ⟨_, rfl, hH8, ?_⟩
        simp only [List.setIfInBounds_toArray, List.set_cons_zero, List.set_cons_succ]
        refine stepH_call 11 151 rfl (by kernel_rfl) (by kernel_rfl) (by kernel_rfl) 16 #[.tmp 146, .tmp 148, .tmp 150, .const (.bool true)] #[29, 3, 3, 4] (by kernel_rfl) (enters_of Try.func16 (by kernel_rfl) rfl) #[.pointer (some ⟨r, 0, none⟩), .int .i64 io, .int .i64 bk, .bool true] (by kernel_rfl) (C4.out _ _ _ h8) ?_
        rintro e w9 ⟨rfl, h9⟩
        have hH9 : XC w9 wr.heap.size V := h9.xa.xc
        refine ⟨_, rfl, hH9, ?_⟩
        simp only [List.setIfInBounds_toArray, List.set_cons_zero, List.set_cons_succ]
        refine takeH 12 152 (.bool false) rfl (by kernel_rfl) (by kernel_rfl) (by kernel_rfl) (by kernel_rfl) (fun _ _ _ h => h) (by kernel_rfl) (fun w hw => by (try dsimp only at hw); go_simp) hH9 ?_
        simp only [List.setIfInBounds_toArray, List.set_cons_zero, List.set_cons_succ]
        refine wpAnyH_done (by kernel_rfl) ?_ _
        have H9 := Hid.mk h9
        clear h9 h8 HZD hH hH8 hH9 C3 C4 q0 q1 q2 q3
        go_wp2_with (first
          | (go_at_call 18; refine (C5.out _ _ _ H9.out).mono ?_; rintro e w10 ⟨rfl, h10⟩; have H10 := Hid.mk h10; clear h10)
          | (go_at_call 19; refine (C6.out _ _ _ H10.out).mono ?_; rintro e w11 ⟨rfl, h11⟩; have H11 := Hid.mk h11; clear h11))
        go_roundw
        case rel =>
          obtain ⟨e1, e2⟩ := HJ1.out
          exact ⟨j1, rfl, Hid.mk ⟨by omega, ti2, td2, _, _, H11.out.py⟩⟩
        case measure => (have := HJ1.out; clear H11; simp [intOf]; omega)
      have yb' : (wy == 2) = false := by simpa using yb
      case neg =>
        obtain ⟨y1, hy1⟩ : ∃ y1, y1 = tnG g i d ti td io bk false := ⟨_, rfl⟩
        obtain ⟨ti2, hti2⟩ : ∃ t, t = tuI g i d ti td io bk false := ⟨_, rfl⟩
        obtain ⟨td2, htd2⟩ : ∃ t, t = tuD g i d ti td io bk false := ⟨_, rfl⟩
        have C3 : Hid (∀ W oi od, Pz w W b b2 r s u G I D g i d N M ti td oi od ti td wr.heap.size V → Calls Try.prog 17 #[.pointer (some ⟨b, 0, none⟩), .int .i64 io, .int .i64 bk] W fun e w' => e = .returned (.bool y1) ∧ Pz w w' b b2 r s u G I D g i d N M ti2 td2 oi od ti td wr.heap.size V) := Hid.mk (fun W oi od h => by rw [hy1, hti2, htd2]; exact h.aG io bk HIO.out)
        have C4 : Hid (∀ W oi od, Pz w W b b2 r s u G I D g i d N M ti2 td2 oi od ti td wr.heap.size V → Calls Try.prog 16 #[.pointer (some ⟨r, 0, none⟩), .int .i64 io, .int .i64 bk, .bool false] W fun e w' => e = .returned (.bool y1) ∧ Pz w w' b b2 r s u G I D g i d N M ti2 td2 oi od ti2 td2 wr.heap.size V) := Hid.mk (fun W oi od h => by rw [hti2, htd2] at h ⊢; rw [hy1]; exact h.rS HQ.out.1 HQ.out.2.1 HQ.out.2.2.1 io bk HIO.out false)
        obtain ⟨f1, hf1⟩ : ∃ x, x = freeN ti2 N := ⟨_, rfl⟩
        obtain ⟨f2, hf2⟩ : ∃ x, x = freeN td2 M := ⟨_, rfl⟩
        have C5 : Hid (∀ W oi od, Pz w W b b2 r s u G I D g i d N M ti2 td2 oi od ti2 td2 wr.heap.size V → Calls Try.prog 18 #[.pointer (some ⟨b, 0, none⟩)] W fun e w' => e = .returned (.tuple #[.int .i64 (f1 : Nat), .int .i64 (f2 : Nat)]) ∧ Pz w w' b b2 r s u G I D g i d N M ti2 td2 oi od ti2 td2 wr.heap.size V) := Hid.mk (fun W oi od h => by rw [hf1, hf2]; exact h.aF HQ.out.2.1 HQ.out.2.2.1)
        have C6 : Hid (∀ W oi od, Pz w W b b2 r s u G I D g i d N M ti2 td2 oi od ti2 td2 wr.heap.size V → Calls Try.prog 19 #[.pointer (some ⟨r, 0, none⟩)] W fun e w' => e = .returned (.tuple #[.int .i64 (f1 : Nat), .int .i64 (f2 : Nat)]) ∧ Pz w w' b b2 r s u G I D g i d N M ti2 td2 oi od ti2 td2 wr.heap.size V) := Hid.mk (fun W oi od h => by rw [hf1, hf2]; exact h.rF HQ.out.2.2.2)
        clear hy1 hti2 htd2 hf1 hf2
        go_wp2_with (first
          | (go_at_call 11; have K := K1; refine (HZ0.out.oI).mono ?_; rintro e w6 ⟨v6, oi6, rfl, h6⟩; have H6 := Hid.mk h6; clear h6 K K1)
          | (go_at_call 12; have K := K2; refine (H6.out.oB).mono ?_; rintro e w7 ⟨v7, od7, rfl, h7⟩; have H7 := Hid.mk h7; obtain ⟨q0, q1, q2, q3⟩ := H7.out.xa.xc; rw [HV.out] at q0 q1 q2 q3; dsimp only at q0 q1 q2 q3; clear h7 K K2))
        have HZD : Pz w w7.drew b b2 r s u G I D g i d N M ti td oi6 od7 ti td wr.heap.size V := H7.out.new ((Below.refl _ w7).drew)
        refine wp_region_held_drew (S := fun W => XC W wr.heap.size V) (by kernel_rfl) HZD.xa.xc (fun hH => ?_)
        change wpAnyH Try.prog Region.Mode.any _ _ _ 13 _ _ _
        refine takeH 0 77 (.pointer (some ⟨b, 0, none⟩)) rfl (by kernel_rfl) (by kernel_rfl) (by kernel_rfl) (by kernel_rfl) (fun _ _ _ h => h) (by kernel_rfl) (fun w hw => by kernel_rfl) hH ?_
        simp only [List.setIfInBounds_toArray, List.set_cons_zero, List.set_cons_succ]
        refine takeH 1 78 (.pointer (some ⟨wr.heap.size, 2, none⟩)) rfl (by kernel_rfl) (by kernel_rfl) (by kernel_rfl) (by kernel_rfl) (fun _ _ _ h => h) (by kernel_rfl) (fun w hw => by (try dsimp only at hw); go_simp) hH ?_
        simp only [List.setIfInBounds_toArray, List.set_cons_zero, List.set_cons_succ]
        refine takeH 2 79 (.int .i64 io) rfl (by kernel_rfl) (by kernel_rfl) (by kernel_rfl) (by kernel_rfl) (fun _ _ _ h => h) (by kernel_rfl) (fun w hw => by obtain ⟨q0, q1, q2, q3⟩ := hw; rw [HV.out] at q0 q1 q2 q3; dsimp only at q0 q1 q2 q3; go_simp) hH ?_
        simp only [List.setIfInBounds_toArray, List.set_cons_zero, List.set_cons_succ]
        refine takeH 3 80 (.pointer (some ⟨wr.heap.size, 3, none⟩)) rfl (by kernel_rfl) (by kernel_rfl) (by kernel_rfl) (by kernel_rfl) (fun _ _ _ h => h) (by kernel_rfl) (fun w hw => by (try dsimp only at hw); go_simp) hH ?_
        simp only [List.setIfInBounds_toArray, List.set_cons_zero, List.set_cons_succ]
        refine takeH 4 81 (.int .i64 bk) rfl (by kernel_rfl) (by kernel_rfl) (by kernel_rfl) (by kernel_rfl) (fun _ _ _ h => h) (by kernel_rfl) (fun w hw => by obtain ⟨q0, q1, q2, q3⟩ := hw; rw [HV.out] at q0 q1 q2 q3; dsimp only at q0 q1 q2 q3; go_simp) hH ?_
        simp only [List.setIfInBounds_toArray, List.set_cons_zero, List.set_cons_succ]
        refine takeH 6 83 (.pointer (some ⟨r, 0, none⟩)) rfl (by kernel_rfl) (by kernel_rfl) (by kernel_rfl) (by kernel_rfl) (fun _ _ _ h => h) (by kernel_rfl) (fun w hw => by kernel_rfl) hH ?_
        simp only [List.setIfInBounds_toArray, List.set_cons_zero, List.set_cons_succ]
        refine takeH 7 84 (.pointer (some ⟨wr.heap.size, 2, none⟩)) rfl (by kernel_rfl) (by kernel_rfl) (by kernel_rfl) (by kernel_rfl) (fun _ _ _ h => h) (by kernel_rfl) (fun w hw => by (try dsimp only at hw); go_simp) hH ?_
        simp only [List.setIfInBounds_toArray, List.set_cons_zero, List.set_cons_succ]
        refine takeH 8 85 (.int .i64 io) rfl (by kernel_rfl) (by kernel_rfl) (by kernel_rfl) (by kernel_rfl) (fun _ _ _ h => h) (by kernel_rfl) (fun w hw => by obtain ⟨q0, q1, q2, q3⟩ := hw; rw [HV.out] at q0 q1 q2 q3; dsimp only at q0 q1 q2 q3; go_simp) hH ?_
        simp only [List.setIfInBounds_toArray, List.set_cons_zero, List.set_cons_succ]
        refine takeH 9 86 (.pointer (some ⟨wr.heap.size, 3, none⟩)) rfl (by kernel_rfl) (by kernel_rfl) (by kernel_rfl) (by kernel_rfl) (fun _ _ _ h => h) (by kernel_rfl) (fun w hw => by (try dsimp only at hw); go_simp) hH ?_
        simp only [List.setIfInBounds_toArray, List.set_cons_zero, List.set_cons_succ]
        refine takeH 10 87 (.int .i64 bk) rfl (by kernel_rfl) (by kernel_rfl) (by kernel_rfl) (by kernel_rfl) (fun _ _ _ h => h) (by kernel_rfl) (fun w hw => by obtain ⟨q0, q1, q2, q3⟩ := hw; rw [HV.out] at q0 q1 q2 q3; dsimp only at q0 q1 q2 q3; go_simp) hH ?_
        simp only [List.setIfInBounds_toArray, List.set_cons_zero, List.set_cons_succ]
        refine stepH_call 5 82 rfl (by kernel_rfl) (by kernel_rfl) (by kernel_rfl) 17 #[.tmp 77, .tmp 79, .tmp 81] #[27, 3, 3] (by kernel_rfl) (enters_of Try.func17 (by kernel_rfl) rfl) #[.pointer (some ⟨b, 0, none⟩), .int .i64 io, .int .i64 bk] (by kernel_rfl) (C3.out _ _ _ HZD) ?_
        rintro e w8 ⟨rfl, h8⟩
        have hH8 : XC w8 wr.heap.size V := h8.xa.xc
        refine ⟨_, rfl, hH8, ?_⟩
        simp only [List.setIfInBounds_toArray, List.set_cons_zero, List.set_cons_succ]
        refine stepH_call 11 88 rfl (by kernel_rfl) (by kernel_rfl) (by kernel_rfl) 16 #[.tmp 83, .tmp 85, .tmp 87, .const (.bool false)] #[29, 3, 3, 4] (by kernel_rfl) (enters_of Try.func16 (by kernel_rfl) rfl) #[.pointer (some ⟨r, 0, none⟩), .int .i64 io, .int .i64 bk, .bool false] (by kernel_rfl) (C4.out _ _ _ h8) ?_
        rintro e w9 ⟨rfl, h9⟩
        have hH9 : XC w9 wr.heap.size V := h9.xa.xc
        refine ⟨_, rfl, hH9, ?_⟩
        simp only [List.setIfInBounds_toArray, List.set_cons_zero, List.set_cons_succ]
        refine takeH 12 89 (.bool false) rfl (by kernel_rfl) (by kernel_rfl) (by kernel_rfl) (by kernel_rfl) (fun _ _ _ h => h) (by kernel_rfl) (fun w hw => by (try dsimp only at hw); go_simp) hH9 ?_
        simp only [List.setIfInBounds_toArray, List.set_cons_zero, List.set_cons_succ]
        refine wpAnyH_done (by kernel_rfl) ?_ _
        have H9 := Hid.mk h9
        clear h9 h8 HZD hH hH8 hH9 C3 C4 q0 q1 q2 q3
        go_wp2_with (first
          | (go_at_call 18; refine (C5.out _ _ _ H9.out).mono ?_; rintro e w10 ⟨rfl, h10⟩; have H10 := Hid.mk h10; clear h10)
          | (go_at_call 19; refine (C6.out _ _ _ H10.out).mono ?_; rintro e w11 ⟨rfl, h11⟩; have H11 := Hid.mk h11; clear h11))
        go_roundw
        case rel =>
          obtain ⟨e1, e2⟩ := HJ1.out
          exact ⟨j1, rfl, Hid.mk ⟨by omega, ti2, td2, _, _, H11.out.py⟩⟩
        case measure => (have := HJ1.out; clear H11; simp [intOf]; omega)
    · clear HACT HJN
      go_wp2
      go_loopw [24] (fun kv wr => ∃ (k : Nat) (z : Int), kv = .int .i64 z ∧ Hid (z = (k : Int) - 1 ∧ k ≤ 10 ∧ Py w wr b b2 r s u G I D g i d N M ti td oi od ti td)) (fun kv _ => (9 - intOf kv).toNat)
      case atStart => exact ⟨0, -1, rfl, Hid.mk ⟨by simp, by omega, HP.out⟩⟩
      case round =>
        obtain ⟨k, z, rfl, HK⟩ := hrel
        have HPK := Hid.mk HK.out.2.2
        by_cases hz : z < 9
        · obtain ⟨z1, hz1⟩ : ∃ z1, z1 = z + 1 := ⟨_, rfl⟩
          have v1 : IntKind.i64.wrap (z + 1) = z1 := by have := HK.out; rw [IntKind.wrap_i64]; omega
          have HZ1 : Hid (z1 = ((k + 1 : Nat) : Int) - 1 ∧ k + 1 ≤ 10 ∧ z < 9 ∧ z1 = z + 1) := Hid.mk (by have := HK.out; omega)
          cases hd : hdB (g : Int) (i : Int) (d : Int) z with
          | false =>
            have C1 : Hid (Calls Try.prog 20 #[.pointer (some ⟨b, 0, none⟩), .int .i64 z] wr fun e w' => e = .returned (.tuple #[.slice none 0 0, .slice none 0 0]) ∧ Below wr.heap.size wr w') := Hid.mk (abits_no wr b g i d ti td HPK.out.a z hd)
            have C2 : Hid (∀ W, Below wr.heap.size wr W → Calls Try.prog 21 #[.pointer (some ⟨r, 0, none⟩), .int .i64 z] W fun e w' => e = .returned (.tuple #[.slice none 0 0, .slice none 0 0]) ∧ Below W.heap.size W w') := Hid.mk (fun W hB => rbits_no W r s u G I D N M ti td (HPK.out.rf.below hB) z (by rw [HQ.out.1.hds]; exact hd))
            obtain ⟨SX, hSX⟩ : ∃ SX, SX = strOfNums [] := ⟨_, rfl⟩
            have HSX := Hid.mk hSX
            clear hd hz1 hSX HK HP
            go_wp2_with (first
              | (go_at_call 20; refine C1.out.mono ?_; rintro e w6 ⟨rfl, h6⟩; have H6 := Hid.mk h6; clear h6)
              | (go_at_call 21; refine (C2.out _ H6.out).mono ?_; rintro e w7 ⟨rfl, h7⟩; have H7 := Hid.mk h7; clear h7)
              | (refine wpL_convB (.tmp 187) rfl rfl none 0 0 [] rfl (BAt.nil _) SX HSX.out ?_)
              | (refine wpL_convB (.tmp 189) rfl rfl none 0 0 [] rfl (BAt.nil _) SX HSX.out ?_)
              | (refine wpL_convB (.tmp 193) rfl rfl none 0 0 [] rfl (BAt.nil _) SX HSX.out ?_)
              | (refine wpL_convB (.tmp 195) rfl rfl none 0 0 [] rfl (BAt.nil _) SX HSX.out ?_))
            go_loopw [29] (fun iv wr2 => iv = .int .i64 0 ∧ Hid (Below wr.heap.size wr wr2)) (fun _ _ => 0)
            case atStart => exact ⟨rfl, Hid.mk (H6.out.trans (H7.out.mono H6.out.size))⟩
            case round =>
              obtain ⟨rfl, HB7⟩ := hrel
              clear H6 H7 C1 C2 HSX
              go_wp2
              go_roundw
              case rel => exact ⟨k + 1, z1, rfl, Hid.mk ⟨HZ1.out.1, HZ1.out.2.1, HPK.out.new HB7.out⟩⟩
              case measure => (have := HZ1.out; clear HPK HB7; simp [intOf]; omega)
          | true =>
            obtain ⟨q, hq, hqg⟩ : ∃ q : Nat, z = q ∧ q < g := by
              unfold hdB at hd
              simp only [Bool.and_eq_true, decide_eq_true_eq] at hd
              exact ⟨z.toNat, by omega, by omega⟩
            subst hq
            have hd0 : 0 < d := (HQ.out.1.nums.2.2.2.2.2 (by omega)).2.2.2.2.2
            have C1 := Hid.mk (HPK.out.bitsA q hqg hd0)
            obtain ⟨L, hL⟩ : ∃ L, L = byt d := ⟨_, rfl⟩
            have C2 : Hid (∀ W a1 gy, BpAt wr W i d q ti td a1 (some ⟨gy, 0, none⟩) gy L → Calls Try.prog 21 #[.pointer (some ⟨r, 0, none⟩), .int .i64 q] W fun e w' => ∃ c1 m1 c2 m2, e = .returned (.tuple #[.slice c1 8 m1, .slice c2 L m2]) ∧ Hid (∃ xs ys, BAt w' a1 8 xs ∧ BAt w' c1 8 xs ∧ BAt w' (some ⟨gy, 0, none⟩) L ys ∧ BAt w' c2 L ys ∧ wr.heap.size ≤ gy ∧ Bytex w' gy L ∧ Below wr.heap.size wr w')) := Hid.mk (fun W a1 gy h => by
              rw [hL] at h ⊢
              exact h.bitsR HPK.out HQ.out.1 HQ.out.2.1 HQ.out.2.2.1 q hqg)
            rw [← hL] at C1
            have HLB : Hid (L ≤ 126) := Hid.mk (by
              have := HQ.out.1.nums.2.2.2.2.1
              rw [hL]; unfold byt; omega)
            clear hd hz1 HK HP hL hd0 hqg
            go_wp2_with (first
              | (go_at_call 20; refine C1.out.mono ?_; rintro e w6 ⟨a1, k1, gy, k2, rfl, H6⟩)
              | (go_at_call 21; refine (C2.out _ _ _ H6.out).mono ?_; rintro e w7 ⟨c1, m1, c2, m2, rfl, h7⟩; obtain ⟨xs, ys, B1, B2, B3, B4, B5, B6, B7⟩ := h7.out; obtain ⟨SX, hSX⟩ : ∃ SX, SX = strOfNums xs := ⟨_, rfl⟩; obtain ⟨SY, hSY⟩ : ∃ SY, SY = strOfNums ys := ⟨_, rfl⟩; have HSX := Hid.mk hSX; have HSY := Hid.mk hSY; have H71 := Hid.mk B1; have H72 := Hid.mk B2; have H73 := Hid.mk B3; have H74 := Hid.mk B4; have H75 := Hid.mk (And.intro B5 (And.intro B6 B7)); clear h7 B1 B2 B3 B4 B5 B6 B7 hSX hSY)
              | (refine wpL_convB (.tmp 187) rfl rfl a1 8 k1 xs rfl H71.out SX HSX.out ?_)
              | (refine wpL_convB (.tmp 189) rfl rfl c1 8 m1 xs rfl H72.out SX HSX.out ?_)
              | (refine wpL_convB (.tmp 193) rfl rfl (some ⟨gy, 0, none⟩) L k2 ys rfl H73.out SY HSY.out ?_)
              | (refine wpL_convB (.tmp 195) rfl rfl c2 L m2 ys rfl H74.out SY HSY.out ?_))
            go_loopw [29] (fun iv wr2 => ∃ t : Nat, iv = .int .i64 t ∧ t ≤ L ∧ Hid (wr.heap.size ≤ gy ∧ Bytex wr2 gy L ∧ Below wr.heap.size wr wr2)) (fun iv _ => L - (intOf iv).toNat)
            case atStart => exact ⟨0, rfl, Nat.zero_le _, H75⟩
            case round =>
              obtain ⟨t, rfl, htL, HB7⟩ := hrel
              clear H6 H75 H71 H72 H73 H74 HSX HSY C1 C2
              by_cases hlt3 : (t : Int) < (L : Int)
              · obtain ⟨v, hv, hvf⟩ := HB7.out.2.1.at t (by omega)
                obtain ⟨t1, ht1⟩ : ∃ t1, t1 = t + 1 := ⟨_, rfl⟩
                have u1 : IntKind.i64.wrap ((t : Int) + 1) = (t1 : Int) := by have := HLB.out; rw [IntKind.wrap_i64]; omega
                have u2 : (0 : Int) ≤ (t : Int) := by omega
                have HT1 : Hid (t1 = t + 1 ∧ t < L) := Hid.mk ⟨ht1, by omega⟩
                clear ht1 htL
                go_wp2
                go_roundw
                case rel =>
                  obtain ⟨x1, x2, x3⟩ := HB7.out
                  exact ⟨t1, rfl, by have := HT1.out; omega, Hid.mk ⟨x1, x2.set t _, x3.setCell (p := ⟨gy, t, none⟩) x1 _⟩⟩
                case measure => (have := HT1.out; clear HB7 HPK; simp [intOf]; omega)
              · go_wp2
                go_roundw
                case rel => exact ⟨k + 1, z1, rfl, Hid.mk ⟨HZ1.out.1, HZ1.out.2.1, HPK.out.new HB7.out.2.2⟩⟩
                case measure => (have := HZ1.out; clear HPK HB7; simp [intOf]; omega)
        · clear HK HQ
          go_wp2
          go_ret
          exact ⟨rfl, HPK.out.below⟩
end Go.Proofs.Ytjhfkcngaknbdaa
