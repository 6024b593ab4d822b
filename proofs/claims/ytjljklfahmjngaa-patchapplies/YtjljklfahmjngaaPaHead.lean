/-
  The least change of a heap that laps with another: head of pile.
-/
import Derived.Test.YtjljklfahmjngaaPaHPop
import Derived.Deep.Cut
namespace Go.Proofs.Ytjljklfahmjngaa
open Go Go.Proofs Go.RowKit Go.Shelf
attribute [local go_sem] Oper.semAt_some
/-- The heap in the block b, its row v, none too. -/
def PvAt (W : World) (base b : Nat) (v : Value) (n : Nat) (H : List (Int × Pt)) : Prop := W.heap[b]? = some (.cells #[v] 47 (0, 0)) ∧ W.ownsRow base 56 4 v n (Sy H) ∧ v.ownBlock ≠ some b
theorem PvAt.len {W : World} {base b n : Nat} {v : Value} {H : List (Int × Pt)} (h : PvAt W base b v n H) : H.length = n := by
  have := h.2.1.1
  rw [Sy_length] at this
  omega
theorem PvAt.slice {W : World} {base b n : Nat} {v : Value} {H : List (Int × Pt)} (h : PvAt W base b v n H) : ∃ ao c, v = .slice ao n c := by
  rcases h.2.1.2 with ⟨e, e2⟩ | ⟨g, cap, cur, e, -⟩
  · have : n = 0 := e2
    subst this
    exact ⟨none, 0, e⟩
  · exact ⟨_, _, e⟩
theorem PvAt.pl {W : World} {base b n : Nat} {v : Value} {H : List (Int × Pt)} (h : PvAt W base b v n H) (h0 : 0 < n) : ∃ g cap, v = .slice (some ⟨g, 0, none⟩) n cap ∧ PlAt W base b g n cap H ∧ g < W.heap.size ∧ base ≤ g := by
  obtain ⟨g, cap, e, q1, q2, -⟩ := owns_spots h.2.1 h0
  subst e
  exact ⟨g, cap, rfl, ⟨h.1, h.2.1, fun e => h.2.2 (by rw [← e]; rfl)⟩, q2, q1⟩
theorem PlAt.pv {W : World} {base b g n cap : Nat} {H : List (Int × Pt)} (h : PlAt W base b g n cap H) : PvAt W base b (.slice (some ⟨g, 0, none⟩) n cap) n H := ⟨h.1, h.2.1, fun e => h.2.2 (by cases e; rfl)⟩
theorem PvAt.only {W W' : World} {base b n : Nat} {v : Value} {H : List (Int × Pt)} {S : Nat → Prop} (h : PvAt W base b v n H) (hO : Only S W W') (hb : ¬ S b) (hv : ∀ k, v.ownBlock = some k → ¬ S k) : PvAt W' base b v n H :=
  ⟨(hO.block b (lt_of_block h.1) hb).trans h.1, owns_at h.2.1 (fun k q => hO.block k (h.2.1.lt k q).2 (hv k q)), h.2.2⟩
/-- How many changes a heap has. -/
def plLen (W : World) (b : Nat) : Nat := match W.cell? ⟨b, 0, none⟩ with
  | some (.slice _ n _) => n
  | _ => 0
theorem PvAt.count {W : World} {base b n : Nat} {v : Value} {H : List (Int × Pt)} (h : PvAt W base b v n H) : plLen W b = n := by
  obtain ⟨ao, c, rfl⟩ := h.slice
  unfold plLen
  rw [blk_cell h.1]
  rfl
structure HdI (w : World) (base b : Nat) (v : Value) (H : List (Int × Pt)) (c : Pt) (W : World) (v' : Value) (n' : Nat) (H' D : List (Int × Pt)) : Prop where
  pv : PvAt W base b v' n' H'
  perm : (H' ++ D).Perm H
  out : ∀ d ∈ D, lapB d.2.at' d.2.n c.at' c.n = false
  heap : HeapF (rkF H') n'
  own : v'.ownBlock = v.ownBlock
  only : Only (fun k => k = b ∨ v.ownBlock = some k) w W
set_option maxRecDepth 100000 in
set_option maxHeartbeats 2000000 in
theorem head_any (w : World) (base b : Nat) (v : Value) (n : Nat) (H : List (Int × Pt)) (h : PvAt w base b v n H) (hn : n ≤ 900) (hh : HeapF (rkF H) n) (hf : ∀ s ∈ H, I64 s.2.at' ∧ s.2.n ≤ 9223372036854775807) (c : Pt) (hc : I64 c.at') (hcn : c.n ≤ 9223372036854775807) :
    Calls Try.prog 26 #[.pointer (some ⟨b, 0, none⟩), paV c.id c.at' c.val] w fun e w' => ∃ (r : Int) (ok : Bool), e = .returned (.tuple #[.int .i64 r, .bool ok]) ∧ Hid (∃ v' n' H' D, HdI w base b v H c w' v' n' H' D ∧ ((ok = false ∧ n' = 0) ∨ (ok = true ∧ 0 < n' ∧ lapB (H'.getD 0 noS).2.at' (H'.getD 0 noS).2.n c.at' c.n = true ∧ r = rkF H' 0))) := by
  have hb := lt_of_block h.1
  have hvl : ∀ k, v.ownBlock = some k → k < w.heap.size := fun k q => (h.2.1.lt k q).2
  obtain ⟨w1, hw1⟩ : ∃ w1, w1 = w.alloc (.cells #[.int .i64 c.id, .int .i64 c.at', .slice c.ao c.n c.c] 31) := ⟨_, rfl⟩
  have hB1 : Below w.heap.size w w1 := by rw [hw1]; exact (Below.refl _ w).alloc (Nat.le_refl _) _
  have HBX : Hid (w1.heap[w.heap.size]? = some (.cells #[.int .i64 c.id, .int .i64 c.at', .slice c.ao c.n c.c] 31 (0, 0))) := Hid.mk (by rw [hw1]; exact blk_new w _)
  have HI1 : Hid (HdI w base b v H c w1 v n H []) := Hid.mk ⟨h.only (Only.of_new (fun _ => False) hB1) (fun q => q) (fun _ _ q => q), by rw [List.append_nil], fun d q => (by cases q), hh, rfl, Only.of_new _ hB1⟩
  have HF := Hid.mk hf
  have HC := Hid.mk (And.intro hc hcn)
  have HV := Hid.mk (And.intro hb hvl)
  have HN := Hid.mk (And.intro hn h.len)
  subst hw1
  clear h hn hh hf hc hcn hb hvl hB1
  unfold paV Pt.val
  obtain ⟨bc, hbc⟩ : ∃ bc, bc = w.heap.size := ⟨_, rfl⟩
  have HBC := Hid.mk hbc
  have HBZ : Hid (bc < (w.alloc (.cells #[.int .i64 c.id, .int .i64 c.at', .slice c.ao c.n c.c] 31)).heap.size) := Hid.mk (by rw [hbc]; simp)
  rw [← hbc] at HBX
  clear hbc
  go_enter Try.func26, Try.ntmps26
  go_wp2
  rw [← HBC.out]
  go_loopw [6] (fun _ wr => Hid (∃ v' n' H' D, HdI w base b v H c wr v' n' H' D ∧ wr.heap[bc]? = some (.cells #[.int .i64 c.id, .int .i64 c.at', .slice c.ao c.n c.c] 31 (0, 0)))) (fun _ wr => plLen wr b)
  case atStart => exact Hid.mk ⟨v, n, H, [], HI1.out, HBX.out⟩
  case round =>
    obtain ⟨v', n', H', D, hI, hbx⟩ := hrel.out
    have HI := Hid.mk hI
    have HX := Hid.mk hbx
    clear HI1 HBX HBZ hrel hbx
    rcases Nat.eq_zero_or_pos n' with h0 | h0
    · subst h0
      obtain ⟨ao, cc, rfl⟩ := hI.pv.slice
      have c0 : wr.cell? ⟨b, 0, none⟩ = some (.slice ao 0 cc) := by rw [blk_cell hI.pv.1]; rfl
      clear hI
      go_wp2
      refine bodyPost_ret (results_tmp2 rfl _ _ _) rfl ?_
      exact ⟨0, false, rfl, Hid.mk ⟨_, 0, H', D, HI.out, .inl ⟨rfl, rfl⟩⟩⟩
    · obtain ⟨g, cap, rfl, hpl, hgl, -⟩ := hI.pv.pl h0
      have c0 : wr.cell? ⟨b, 0, none⟩ = some (.slice (some ⟨g, 0, none⟩) n' cap) := hpl.cell
      obtain ⟨g', cap', e, -, -, hlen, hcs⟩ := owns_spots hpl.2.1 h0
      cases e
      obtain ⟨x0, x1, x2, x3⟩ := hcs 0 h0
      rw [Nat.zero_mul] at x0
      rw [Nat.zero_mul, Nat.zero_add] at x1 x2 x3
      obtain ⟨s, hs⟩ : ∃ s, s = H'.getD 0 noS := ⟨_, rfl⟩
      rw [← hs] at x0 x1 x2 x3
      have x3' : wr.cell? ⟨g, 3, none⟩ = some (.slice s.2.ao s.2.n s.2.c) := x3
      have hsH : s ∈ H := by
        have q1 : s ∈ H' := by
          rw [hs, List.getD_eq_getElem?_getD, List.getElem?_eq_getElem (by omega)]
          exact List.getElem_mem _
        exact hI.perm.mem_iff.1 (List.mem_append_left _ q1)
      have h0i : (0 : Int) < (n' : Int) := by omega
      obtain ⟨w2, hw2⟩ : ∃ w2, w2 = wr.alloc (.cells #[.int .i64 s.1, .int .i64 s.2.id, .int .i64 s.2.at', .slice s.2.ao s.2.n s.2.c] 56) := ⟨_, rfl⟩
      have hB2 : Below wr.heap.size wr w2 := by rw [hw2]; exact (Below.refl _ wr).alloc (Nat.le_refl _) _
      have hnew : w2.heap[wr.heap.size]? = some (.cells #[.int .i64 s.1, .int .i64 s.2.id, .int .i64 s.2.at', .slice s.2.ao s.2.n s.2.c] 56 (0, 0)) := by rw [hw2]; exact blk_new wr _
      have hbx2 : w2.heap[bc]? = some (.cells #[.int .i64 c.id, .int .i64 c.at', .slice c.ao c.n c.c] 31 (0, 0)) := (hB2.block bc (lt_of_block HX.out)).trans HX.out
      have y0 : w2.cell? ⟨bc, 0, none⟩ = some (.int .i64 c.id) := by rw [blk_cell hbx2]; rfl
      have y1 : w2.cell? ⟨bc, 1, none⟩ = some (.int .i64 c.at') := by rw [blk_cell hbx2]; rfl
      have y2 : w2.cell? ⟨bc, 2, none⟩ = some (.slice c.ao c.n c.c) := by rw [blk_cell hbx2]; rfl
      have HLP : Hid (Calls Try.prog 15 #[.agg #[.int .i64 s.2.id, .int .i64 s.2.at', .slice s.2.ao s.2.n s.2.c], .agg #[.int .i64 c.id, .int .i64 c.at', .slice c.ao c.n c.c]] w2 fun e w' => e = .returned (.bool (lapB s.2.at' s.2.n c.at' c.n)) ∧ Below w2.heap.size w2 w') := Hid.mk (lap_any w2 s.2.id c.id s.2.at' c.at' s.2.ao c.ao s.2.n c.n s.2.c c.c (HF.out s hsH).1 HC.out.1 (HF.out s hsH).2 HC.out.2)
      have HRK : Hid (∀ w3, Below w2.heap.size w2 w3 → w3.cell? ⟨wr.heap.size, 0, none⟩ = some (.int .i64 s.1)) := Hid.mk (fun w3 hB => by
        rw [blk_cell ((hB.block _ (lt_of_block hnew)).trans hnew)]
        rfl)
      have HS := Hid.mk hs
      have hB3 : ∀ w3, Below w2.heap.size w2 w3 → Below wr.heap.size wr w3 := fun w3 hB => hB2.trans (hB.mono hB2.size)
      have HPL : Hid (∀ w3, Below w2.heap.size w2 w3 → PlAt w3 base b g n' cap H' ∧ HdI w base b v H c w3 (.slice (some ⟨g, 0, none⟩) n' cap) n' H' D ∧ w3.heap[bc]? = some (.cells #[.int .i64 c.id, .int .i64 c.at', .slice c.ao c.n c.c] 31 (0, 0))) := Hid.mk (fun w3 hB => by
        have hb3 := hB3 w3 hB
        have hv3 := hI.pv.only (Only.of_new (fun _ => False) hb3) (fun q => q) (fun _ _ q => q)
        exact ⟨⟨hv3.1, hv3.2.1, hpl.2.2⟩, ⟨hv3, hI.perm, hI.out, hI.heap, hI.own, hI.only.trans (Only.of_new (fun _ => False) hb3) (fun _ q => q.elim)⟩, (hb3.block bc (lt_of_block HX.out)).trans HX.out⟩)
      obtain ⟨n1, hn1⟩ : ∃ n1, n' = n1 + 1 := ⟨n' - 1, by omega⟩
      have HN1 : Hid (n' = n1 + 1 ∧ n1 ≤ 900) := Hid.mk ⟨hn1, by
        have q1 := hI.perm.length_eq
        rw [List.length_append, hI.pv.len] at q1
        have := HN.out
        omega⟩
      have HGB : Hid (g ≠ bc ∧ b ≠ bc ∧ v.ownBlock = some g) := Hid.mk ⟨fun e => by
        have := HV.out.2 g (by rw [← hI.own]; rfl)
        have := HBC.out
        omega, fun e => by have := HV.out.1; have := HBC.out; omega, by rw [← hI.own]; rfl⟩
      have HCN : Hid (plLen wr b = n') := Hid.mk hI.pv.count
      clear hn1 hB3 hB2 hnew hbx2 hs hsH hcs hlen hpl hgl hI x3
      obtain ⟨t, ht⟩ : ∃ t, t = lapB s.2.at' s.2.n c.at' c.n := ⟨_, rfl⟩
      rw [← ht] at HLP
      have HT := Hid.mk ht
      clear ht
      subst hw2
      cases t with
      | true =>
        go_wp2_with (go_at_call 15; refine HLP.out.mono ?_; rintro e w3 ⟨rfl, hb3⟩; have HB3 := Hid.mk hb3; have z0 := HRK.out w3 hb3; clear hb3 HLP HRK)
        refine bodyPost_ret (results_tmp2 rfl _ _ _) rfl ?_
        refine ⟨s.1, true, rfl, Hid.mk ⟨_, n', H', D, (HPL.out _ HB3.out).2.1, .inr ⟨rfl, by have := HN1.out; omega, by rw [← HS.out]; exact HT.out.symm, by unfold rkF; rw [← HS.out]⟩⟩⟩
      | false =>
        have HPP : Hid (∀ w3, Below (wr.alloc (.cells #[.int .i64 s.1, .int .i64 s.2.id, .int .i64 s.2.at', .slice s.2.ao s.2.n s.2.c] 56)).heap.size (wr.alloc (.cells #[.int .i64 s.1, .int .i64 s.2.id, .int .i64 s.2.at', .slice s.2.ao s.2.n s.2.c] 56)) w3 → Calls Try.prog 37 #[.iface 54 (.pointer (some ⟨b, 0, none⟩))] w3 fun e w' => (∃ u, e = .returned u) ∧ Hid (∃ v' n' H' D, (HdI w base b v H c w' v' n' H' D ∧ w'.heap[bc]? = some (.cells #[.int .i64 c.id, .int .i64 c.at', .slice c.ao c.n c.c] 31 (0, 0))) ∧ n' = n1)) := Hid.mk (fun w3 hB => by
          obtain ⟨q1, q2, q3⟩ := HPL.out w3 hB
          refine (hpop_any w3 base b g n1 n' cap H' HN1.out.1 q1 HN1.out.2 q2.heap).mono ?_
          rintro e w' ⟨hu, H2, HQ⟩
          obtain ⟨r1, r2, r3, r4⟩ := HQ.out
          refine ⟨hu, Hid.mk ⟨_, n1, H2, s :: D, ⟨⟨r1.pv, ?_, ?_, r3, HGB.out.2.2.symm, q2.only.trans r4 (fun k e => .inl (e.elim .inl (fun e => .inr (by rw [e]; exact HGB.out.2.2))))⟩, (r4.block bc (lt_of_block q3) (fun e => e.elim (fun e => HGB.out.2.1 e.symm) (fun e => HGB.out.1 e.symm))).trans q3⟩, rfl⟩⟩
          · rw [← HS.out] at r2
            have e1 : H2 ++ s :: D = (H2 ++ [s]) ++ D := by simp
            rw [e1]
            exact (r2.append_right D).trans q2.perm
          · intro d hd
            rcases List.mem_cons.1 hd with e | e
            · rw [e]; exact HT.out.symm
            · exact q2.out d e)
        clear HPL
        go_wp2_with (go_at_call 15; refine HLP.out.mono ?_; rintro e w3 ⟨rfl, hb3⟩; have HP3 := Hid.mk (HPP.out w3 hb3); clear hb3 HLP HRK HPP)
        go_wp2_with (go_at_call 37; refine HP3.out.mono ?_; rintro e w4 ⟨⟨u, rfl⟩, H4⟩; clear HP3)
        obtain ⟨v4, n4, H4', D4, k1, k2⟩ := H4.out
        have K1 := Hid.mk k1
        have K2 := Hid.mk k2
        clear k1 k2 H4
        go_roundw
        case rel => exact Hid.mk ⟨v4, n4, H4', D4, K1.out⟩
        case measure => (rw [K1.out.1.pv.count, HCN.out]; have := K2.out; have := HN1.out; omega)
end Go.Proofs.Ytjljklfahmjngaa
