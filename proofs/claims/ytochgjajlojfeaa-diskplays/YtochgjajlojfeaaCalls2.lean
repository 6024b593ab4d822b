/-
  What Read and Of do, each for every disk and every image.
-/
import Derived.Test.YtochgjajlojfeaaCalls1
namespace Go.Proofs.Ytochgjajlojfeaa
open Go Go.Proofs Go.RowKit

set_option maxHeartbeats 400000 in
theorem read_no (F : Nat → Prop) (w : World) (d : Nat) (s : DS) (h : DiskAt F w d s) (hn : s.img.length ≤ 20480000) (block : Int) (hno : hasB s block = false ∨ s.dead = true) :
    Calls Try.prog 10 #[.pointer (some ⟨d, 0, none⟩), .int .i64 block] w fun e w' => e = .returned (.tuple #[.slice none 0 0, .bool false]) ∧ w' = w := by
  have HB := has_any F w d s h hn block
  obtain ⟨h0, bi, lv, h1, h2⟩ := h
  have hc := blk_cell h1 2
  simp at hc
  clear h1 h2
  cases hb : hasB s block with
  | false =>
    rw [hb] at HB
    have HBH := Hid.mk HB
    clear HB hno hb
    go_enter Try.func10, Try.ntmps10
    go_wp2_with (go_at_call 19; refine HBH.out.mono ?_; rintro e w' ⟨rfl, rfl⟩)
    go_ret2
    exact ⟨rfl, rfl⟩
  | true =>
    rw [hb] at HB hno
    have hd : s.dead = true := by simpa using hno
    rw [hd] at hc
    have HBH := Hid.mk HB
    clear HB hno hb hd
    go_enter Try.func10, Try.ntmps10
    go_wp2_with (go_at_call 19; refine HBH.out.mono ?_; rintro e w' ⟨rfl, rfl⟩)
    go_ret2
    exact ⟨rfl, rfl⟩

theorem hasB_nat {s : DS} {block : Int} (h : hasB s block = true) : ∃ q : Nat, block = q ∧ 1024 * q + 1024 ≤ s.img.length := by
  simp [hasB] at h
  exact ⟨block.toNat, by omega, by omega⟩

theorem getD_window (l : List Int) (o n i : Nat) (h : i < n) : ((l.drop o).take n).getD i 0 = l.getD (o + i) 0 := by
  simp [List.getD, List.getElem?_drop, h]

set_option maxHeartbeats 400000 in
theorem read_yes (F : Nat → Prop) (w : World) (d : Nat) (s : DS) (h : DiskAt F w d s) (hn : s.img.length ≤ 20480000) (block : Nat) (hyes : hasB s block = true) (hd : s.dead = false) :
    Calls Try.prog 10 #[.pointer (some ⟨d, 0, none⟩), .int .i64 block] w fun e w' => ∃ v', e = .returned (.tuple #[v', .bool true]) ∧
      w'.ownsRow w.heap.size 5 1 v' 1024 (By ((s.img.drop (1024 * block)).take 1024)) ∧ v' ≠ .slice none 0 0 ∧ Below w.heap.size w w' := by
  have HB := has_any F w d s h hn block
  rw [hyes] at HB
  have hq : 1024 * block + 1024 ≤ s.img.length := by
    obtain ⟨q, e, h'⟩ := hasB_nat hyes
    omega
  obtain ⟨h0, bi, lv, h1, h2⟩ := h
  have hc := blk_cell h1 2
  have hc0 := blk_cell h1 0
  simp [hd] at hc hc0
  have HC : Hid (∀ c, Calls Try.prog 23 #[.slice (some ⟨bi, 1024 * block, none⟩) 1024 c] w fun e w' => ∃ v', e = .returned v' ∧
      w'.ownsRow w.heap.size 5 1 v' 1024 (By ((s.img.drop (1024 * block)).take 1024)) ∧ v' ≠ .slice none 0 0 ∧ Below w.heap.size w w') := fun c =>
    clone_any ⟨bi, 1024 * block, none⟩ 1024 c _ w (by simp; omega) (by omega) (fun i hi => by
      rw [getD_window _ _ _ _ hi]
      exact bytes_at h2.2.1 (1024 * block) i (by omega))
  clear h1 h2
  have HBH := Hid.mk HB
  clear HB hyes
  generalize s.img.length = L at *
  go_enter Try.func10, Try.ntmps10
  go_wp2_with fail
  refine HBH.out.mono ?_
  rintro e w' ⟨rfl, hw⟩
  subst w'
  go_wp2_with fail
  rw [show (block + 1) * 1024 - block * 1024 = 1024 from by omega, Nat.mul_comm block 1024]
  refine (HC.out _).mono ?_
  rintro e w' ⟨v', rfl, hown, hnn, hb⟩
  go_wp2
  go_ret2
  exact ⟨v', rfl, hown, hnn, hb⟩

def ofB (xs : List Int) : DS := ⟨xs.take (1024 * min (xs.length / 1024) 20000), [], false, false, 0⟩

theorem size5 : (Try.prog.info? 5).map (·.size) = some 1 := by kernel_rfl

set_option maxHeartbeats 400000 in
theorem of_any (w : World) (ao : Option Addr) (n c : Nat) (xs : List Int) (hx : xs.length = n) (hbig : n ≤ 140737488355328)
    (hc : 0 < n → ∃ a, ao = some a ∧ a.block < w.heap.size ∧ ∀ i, i < n → w.cell? (a.add i) = some (.int .u8 (xs.getD i 0))) :
    Calls Try.prog 18 #[.slice ao n c] w fun e w' => ∃ d, e = .returned (.pointer (some ⟨d, 0, none⟩)) ∧ w.heap.size ≤ d ∧
      DiskAt (fun k => w.heap.size ≤ k) w' d (ofB xs) ∧ Below w.heap.size w w' := by
  have HN := new_any w (n / 1024 : Nat)
  have hm : capB (n / 1024 : Nat) = min (n / 1024) 20000 := by unfold capB; omega
  rw [hm] at HN
  have hO : ofB xs = ⟨xs.take (1024 * min (n / 1024) 20000), [], false, false, 0⟩ := by rw [ofB, hx]
  rw [hO]
  have hle : 1024 * min (n / 1024) 20000 ≤ n := by omega
  generalize min (n / 1024) 20000 = m at *
  clear hm hO
  have HN := Hid.mk HN
  have HC := Hid.mk hc
  have HX := Hid.mk hx
  clear hc hx
  go_enter Try.func18, Try.ntmps18
  go_wp2_with fail
  refine HN.out.mono ?_
  rintro e w1 ⟨d, rfl, hd, hD, hB⟩
  obtain ⟨h0, bi, lv, h1, h2⟩ := hD
  rw [List.length_replicate] at h1
  have hc0 := blk_cell h1 0
  simp at hc0
  have H1 := Hid.mk h1
  have H2 := Hid.mk h2
  clear h1 h2
  obtain ⟨cs, hcs⟩ : ∃ cs, cs = By (xs.take (1024 * m)) := ⟨_, rfl⟩
  have HCS := Hid.mk hcs
  clear hcs
  go_wp2_with (refine wpList_copy_grown rfl (.tmp 11) (.tmp 12) 27 27 rfl 5 Try.underlying27 size5 _ _ _ _ _ _ rfl rfl bi 0 (By (List.replicate (1024 * m) 0)) 5 H2.out.2.1 cs ?qa ?qb ?qc ?qd ?_)
  case qa => rw [HCS.out, By_length, List.length_take]; show _ = min n (1024 * m); have := HX.out; omega
  case qb =>
    intro hp
    rw [HCS.out, By_length] at hp
    obtain ⟨a, rfl, hlt, hcell⟩ := HC.out (by have := HX.out; simp at hp; omega)
    refine ⟨a, rfl, fun j v hj => ?_⟩
    have hj2 := (List.getElem?_eq_some_iff.1 hj).1
    rw [HCS.out, By_length] at hj2
    have hj3 : j < 1024 * m := by simp at hj2; omega
    rw [HCS.out, By_get _ _ hj2] at hj
    have hb : (a.add j).block = a.block := by unfold Addr.add; split <;> rfl
    rw [hB.cell (by rw [hb]; exact hlt), hcell j (by omega), ← hj]
    simp [List.getD, hj3]
  case qc => rw [HCS.out, By_length, By_length, List.length_take, List.length_replicate]; omega
  case qd => rw [HCS.out]; exact By_one _
  intro w2 hblk hg
  go_wp2
  go_ret
  have hg := hg.out
  have hH := hblk.out
  have hlen : (xs.take (1024 * m)).length = 1024 * m := by have := HX.out; simp; omega
  have hcur : splice (By (List.replicate (1024 * m) 0)) 0 cs = By (xs.take (1024 * m)) := by
    rw [HCS.out, splice_By]
    simp only [splice, List.take_zero, List.nil_append, Nat.zero_add, hlen]
    rw [List.drop_of_length_le (by simp), List.append_nil]
  rw [hcur] at hH
  have hdb : d ≠ bi := fun e => H2.out.1.2 e.symm
  have hwb : w.heap.size ≤ bi := H2.out.1.1
  have hblkd : w2.heap[d]? = w1.heap[d]? := hg.block d (lt_of_block H1.out) (fun e => hdb (by simpa using e))
  refine ⟨d, rfl, hd, ⟨hd, bi, lv, ?_, H2.out.1, ?_, ?_⟩, ?_⟩
  · rw [hblkd, H1.out, hlen]
  · exact hH
  · have hl := H2.out.2.2
    have hl' : LogAt (fun k => ((w.heap.size ≤ k ∧ k ≠ d) ∧ k ≠ bi) ∧ k < w1.heap.size) w1 lv [] := hl.mono (fun k hs e => ⟨e, hs.lt⟩)
    exact (hl'.at (W' := w2) (fun k e => hg.block k e.2 (fun h => e.1.2 (by simpa using h)))).mono (fun k _ e => e.1)
  · exact hB.grown hg hB.size (by intro k hk; simp at hk; omega)

end Go.Proofs.Ytochgjajlojfeaa
