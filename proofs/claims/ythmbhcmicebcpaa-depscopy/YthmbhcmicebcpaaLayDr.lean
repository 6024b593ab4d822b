/-
  For DepsDrain: something is ready; each write brings something.
-/
import Derived.Test.YthmbhcmicebcpaaDpBoth
import Derived.Deep.Cut
import Derived.Deep.CutRange
import Derived.Deep.CutBlock
namespace Go.Proofs.Ythmbhcmicebcpaa
open Go Go.Proofs Go.RowKit Go.Shelf
theorem may_ex {G : Gp} (hG : G.Ok) (h : 0 < cnt G) : ∃ i : Nat, i < G.n ∧ mayB G i = true := by
  have : ∃ j, j < G.n ∧ G.dn (j : Nat) = false := by
    unfold cnt at h
    obtain ⟨j, hj⟩ := List.exists_mem_of_length_pos h
    rw [List.mem_filter, List.mem_range] at hj
    exact ⟨j, hj.1, by simpa using hj.2⟩
  obtain ⟨j, hj1, hj2⟩ := this
  revert hj1 hj2
  induction j using Nat.strongRecOn with
  | _ j ih =>
    intro hj1 hj2
    by_cases hm : mayB G j = true
    · exact ⟨j, hj1, hm⟩
    · have hnm : ¬ mayP G (j : Nat) := fun q => hm ((may_iff hG ⟨by omega, by omega⟩).2 q)
      have hu : und G (j : Nat) := ⟨⟨by omega, by omega⟩, hj2⟩
      have : ∃ x, hng G (j : Nat) x := Classical.byContradiction (fun q => hnm ⟨hu, fun x hx => q ⟨x, hx⟩⟩)
      obtain ⟨x, hx, hxu⟩ := this
      have hd := hG.dag (j : Nat) x hu.1 hx
      have e : ((x.toNat : Nat) : Int) = x := by omega
      exact ih x.toNat (by omega) (by have := hxu.1.2; omega) (by rw [e]; exact hxu.2)
theorem cnt_fin_le (G : Gp) (i : Int) : cnt (G.fin i) ≤ cnt G := by
  unfold cnt
  rw [← List.countP_eq_length_filter, ← List.countP_eq_length_filter]
  refine List.countP_mono_left (fun j _ h => ?_)
  unfold Gp.fin at h
  simp only at h
  split at h
  · cases h
  · exact h
theorem cnt_fins_le (S : List Int) : ∀ G : Gp, cnt (G.fins S) ≤ cnt G := by
  induction S with
  | nil => intro G; exact Nat.le_refl _
  | cons i r ih => intro G; exact Nat.le_trans (ih (G.fin i)) (cnt_fin_le G i)
theorem cnt_pos {G : Gp} {i : Int} (h : und G i) : 0 < cnt G := by
  unfold cnt
  refine List.length_pos_of_mem (a := i.toNat) (List.mem_filter.2 ⟨List.mem_range.2 (by have := h.1; omega), ?_⟩)
  have e : ((i.toNat : Nat) : Int) = i := by have := h.1; omega
  show (!G.dn ((i.toNat : Nat) : Int)) = true
  rw [e, h.2]
  rfl
theorem cnt_fins_lt {G : Gp} {S : List Int} (h : ∀ i ∈ S, mayP G i) (hne : S ≠ []) : cnt (G.fins S) < cnt G := by
  cases S with
  | nil => exact absurd rfl hne
  | cons i r =>
    have hu := (h i (by simp)).1
    have h1 := cnt_fins_le r (G.fin i)
    have h2 := cnt_fin hu
    have h3 := cnt_pos hu
    show cnt ((G.fin i).fins r) < _
    omega
/-- A row of those that are ready: none of them is in vain. -/
theorem ready_ne {G : Gp} {A : Ga} (hR : Rel G A) (hG : G.Ok) {x : Int} (hx : x ∈ bufP G (fun j => mayB G j) G.n) : nxL A x ≠ [] ∧ (Lit.int .i64 x).wf = true := by
  obtain ⟨j, h1, h2, rfl⟩ := bufP_mem.1 hx
  refine ⟨fun e => ?_, hG.wf j ⟨by omega, by omega⟩⟩
  have := ((nx_pw hR (G.buf j)).2 (j : Int)).2 ⟨(may_iff hG ⟨by omega, by omega⟩).1 h2, rfl⟩
  rw [e] at this
  cases this
theorem bufs_none {G : Gp} (h : cnt G = 0) : bufP G (undB G) G.n = [] := by
  cases hb : bufP G (undB G) G.n with
  | nil => rfl
  | cons x r =>
    obtain ⟨j, h1, h2, _⟩ := bufP_mem.1 (by rw [hb]; simp : x ∈ bufP G (undB G) G.n)
    have := cnt_pos (G := G) (i := (j : Nat)) ⟨⟨by omega, by omega⟩, by simpa [undB] using h2⟩
    omega
section
variable {Y : Nat → Prop} {w W W' : World} {g r : Nat} {v u : Value} {G : Gp} {A : Ga}
theorem Bu.bo (h : Bu Y w W g r v u G A) : Bo Y w W g r v G A := by
  obtain ⟨Fr, h1, h2, h3, _⟩ := h
  exact ⟨Fr, h1, h2, h3⟩
theorem Bu.grow (h : Bu Y w W g r v u G A) (hB : Below W.heap.size W W') : Bu Y w W' g r v u G A := by
  obtain ⟨Fr, h1, h2, h3, h4⟩ := h
  exact ⟨Fr, h1.grow hB, h2.below hB, h3, h4⟩
theorem Bu.cell (h : Bu Y w W g r v u G A) : W.cell? ⟨r, 0, none⟩ = some v := by
  obtain ⟨Fr, h1, h2, _⟩ := h
  exact h2.cell
/-- The cells of the reference's row, and what a mark makes of it. -/
theorem Bu.at' (h : Bu Y w W g r v u G A) (h0 : 0 < G.n) : ∃ gb cap, v = .slice (some ⟨gb, 0, none⟩) G.n cap ∧ u.ownBlock ≠ some gb ∧ gb ≠ r ∧ (∀ j, W.frozen? ⟨gb, j, none⟩ = false) ∧ (∀ j : Nat, j < G.n → W.cell? ⟨gb, j * 3, none⟩ = some (.int .i64 (G.buf j)) ∧ (∃ ao m cc, W.cell? ⟨gb, j * 3 + 1, none⟩ = some (.slice ao m cc) ∧ LAt W ao m (G.on j) ∧ m ≤ 1000000) ∧ W.cell? ⟨gb, j * 3 + 2, none⟩ = some (.bool (G.dn j))) ∧ (∀ j : Nat, j < G.n → Bu Y w (W.setCell ⟨gb, j * 3 + 2, none⟩ (.bool true)) g r v u (G.fin j) A) := by
  obtain ⟨Fr, h1, h2, h3, h4⟩ := h
  obtain ⟨gb, cap, e, hne, hF, hl, hfz, hc⟩ := h2.at' h0
  subst e
  refine ⟨gb, cap, rfl, h4 gb hF, hne, hfz, hc, fun j hj => ?_⟩
  have hO : Only Fr W (W.setCell ⟨gb, j * 3 + 2, none⟩ (.bool true)) := (Only.refl Fr W).setCell (p := ⟨gb, j * 3 + 2, none⟩) (.inl hF) _
  exact ⟨Fr, h1.side hO (fun k q => .inl q) (fun k q => ⟨by have := (h1.bx k q).2; simp; exact this, .inl q⟩), h2.done hj, h3, h4⟩
end
theorem bu_written3 {Y : Nat → Prop} {w W : World} {g r : Nat} {v : Value} {G : Gp} {A : Ga} (h : Bo Y w W g r v G A) (hR : Rel G A) (hG : G.Ok) (hn : G.n < 800000) (b : Int) (hwb : (Lit.int .i64 b).wf = true) : Calls Try.prog 25 #[ptV g, .int .i64 b] W fun e W' => ∃ ao c, e = .returned (.slice ao (nxL A b).length c) ∧ Hid (LAt W' ao (nxL A b).length (nxL A b) ∧ Bu Y w W' g r v (.slice ao (nxL A b).length c) G (A.fins (nxL A b)) ∧ Ky Y W W' ∧ W.heap.size ≤ W'.heap.size) := by
  obtain ⟨Fr, h1, h2, h3⟩ := h
  refine (r_written2 h1 hR hG (by omega) hwb).mono ?_
  rintro e W' ⟨u, rfl, q1, q2, q3, q4⟩
  obtain ⟨ao, c, rfl, hla⟩ := owns_lat q1
  refine ⟨ao, c, rfl, Hid.mk ⟨hla, ⟨Fr, q2, h2.keep q3 (fun k q _ => q4 k (.inl q)), h3, fun k q e => ?_⟩, fun k q => q4 k (.inr q), q3⟩⟩
  have := (h1.bx k (.inl q)).2
  have := ((hr_of q1).2 k e).1
  omega
/-- The row of what was written, the row of what was ready, and both graphs. -/
def DSt (Y : Nat → Prop) (w : World) (g r : Nat) (v : Value) (aw : Option Addr) (mw cw : Nat) (S : List Int) (ab : Option Addr) (mb : Nat) (Bl : List Int) (G : Gp) (A : Ga) (W : World) : Prop := LAt W aw mw S ∧ LAt W ab mb Bl ∧ Bu Y w W g r v (.slice aw mw cw) G A
theorem DSt.grow {Y : Nat → Prop} {w : World} {g r : Nat} {v : Value} {aw : Option Addr} {mw cw : Nat} {S : List Int} {ab : Option Addr} {mb : Nat} {Bl : List Int} {G : Gp} {A : Ga} {W W' : World} (h : DSt Y w g r v aw mw cw S ab mb Bl G A W) (hB : Below W.heap.size W W') : DSt Y w g r v aw mw cw S ab mb Bl G A W' := ⟨h.1.next hB, h.2.1.next hB, h.2.2.grow hB⟩
end Go.Proofs.Ythmbhcmicebcpaa
namespace Go.Proofs.Ythmbhcmicebcpaa
open Go Go.Proofs Go.RowKit Go.Shelf
attribute [local go_sem] Oper.semAt_some
theorem Bo.rebase {Y : Nat → Prop} {w w1 W : World} {g r : Nat} {v : Value} {G : Gp} {A : Ga} (h : Bo Y w1 W g r v G A) (hB : Below w.heap.size w w1) : Bo Y w W g r v G A := by
  obtain ⟨Fr, ⟨D, d1, d2, d3, d4⟩, h2, h3⟩ := h
  have hs := hB.size
  exact ⟨Fr, ⟨D, d1.mono (fun k _ q => ⟨by have := q.1; omega, q.2⟩), d2, hB.trans (d3.mono hs), fun k q => ⟨by have := (d4 k q).1; omega, (d4 k q).2⟩⟩, h2, h3⟩
set_option maxRecDepth 100000 in
set_option maxHeartbeats 16000000 in
theorem drain_any (w : World) (ao : Option Addr) (n cc : Nat) (V : Nat → ActV) (hV : ActsAt w ao n V) (hn : n ≤ 9223372036854775807) (ap : Option Addr) (np cp : Nat) (Ps : List Int) (hP : LAt w ap np Ps) (hnp : np ≤ 9223372036854775807) : Calls Try.prog 4 #[.slice ao n cc, .slice ap np cp] w fun e w' => e = .returned (.bool true) ∧ Below w.heap.size w w' := by
  have HAL := Hid.mk (alive_any w)
  have HBIG : Hid (∀ W, Below w.heap.size w W → Calls Try.prog 10 #[.slice ao n cc] W fun e W' => BigTo n V e ∧ W' = W) := Hid.mk (fun W hB => big_any W ao n cc V (fun h0 => by
    obtain ⟨ab, off, e, hl, hc⟩ := hV h0
    refine ⟨ab, off, e, Nat.lt_of_lt_of_le hl hB.size, fun j hj => ?_⟩
    obtain ⟨ab', off', e', _, h⟩ := acts_at hV hB hj
    rw [e] at e'
    cases e'
    exact h) hn)
  have HBOTH : Hid (∀ W, Below w.heap.size w W → (n ≤ 150 ∧ ∀ j, j < n → (V j).m ≤ 1000) → Calls Try.prog 11 #[.slice ao n cc] W fun e w' => ∃ g r, e = .returned (.tuple #[ptV g, ptV r, .bool true]) ∧ Hid (BothTo W n g r w' ∧ Below w.heap.size w W ∧ n ≤ 150)) := Hid.mk (fun W hB hb => by
    refine (both_any w W hB ao n cc V hV hb.1 hb.2).mono ?_
    rintro e w' ⟨g, r, rfl, HQ⟩
    exact ⟨g, r, rfl, Hid.mk ⟨HQ.out, hB, hb.1⟩⟩)
  have HPS : Hid (∀ W, Below w.heap.size w W → LAt W ap np Ps) := Hid.mk (fun W hB => hP.next hB)
  clear hV hP
  by_cases h500 : (500 : Int) < (np : Int)
  · go_enter Try.func4, Try.ntmps4
    go_wp2_with (first
      | (go_at_call 9; refine HAL.out.mono ?_; rintro e w1 ⟨rfl, hb1⟩; have HB1 := Hid.mk hb1; clear hb1 HAL)
      | (go_at_call 10; refine (HBIG.out _ HB1.out).mono ?_; rintro e w2 ⟨⟨bb, rfl, hbb⟩, rfl⟩; clear hbb HBIG; cases bb)
      | go_in)
    all_goals
      go_ret
      exact ⟨rfl, HB1.out⟩
  have HNP : Hid (np ≤ 500) := Hid.mk (by omega)
  go_enter Try.func4, Try.ntmps4
  go_upto_region 3 with (first
    | (go_at_call 9; refine HAL.out.mono ?_; rintro e w1 ⟨rfl, hb1⟩; have HB1 := Hid.mk hb1; clear hb1 HAL)
    | (go_at_call 10; refine (HBIG.out _ HB1.out).mono ?_; rintro e w2 ⟨⟨bb, rfl, hbb⟩, hw2⟩; have hw2' := hw2.symm; clear hw2; subst hw2'; have HBB := Hid.mk hbb; clear hbb HBIG)
    | go_in)
  cases bb with
  | true =>
    go_wp2
    go_ret
    exact ⟨rfl, HB1.out⟩
  | false =>
  have HBO := Hid.mk (HBOTH.out _ HB1.out (HBB.out rfl))
  clear HBOTH HBB
  go_upto_region 8 with (first
    | (go_at_call 11; refine HBO.out.mono ?_; rintro e w3 ⟨g, r, rfl, H3⟩; clear HBO)
    | go_in)
  have H0 : Hid (∃ v G A, Bo (fun _ => False) w w3 g r v G A ∧ Rel G A ∧ G.Ok ∧ G.n ≤ 150) := Hid.mk (by
    obtain ⟨⟨v, G, A, h1, h2, h3, h4⟩, h5, h6⟩ := H3.out
    exact ⟨v, G, A, h1.rebase h5, h2, h3, by omega⟩)
  clear H3
  go_wp2
  go_loopw [10, 11, 12, 13, 14, 15, 16, 17] (fun iv _ _ _ _ _ _ _ wr => ∃ i : Nat, iv = .int .i64 i ∧ Hid (∃ v G A, Bo (fun _ => False) w wr g r v G A ∧ Rel G A ∧ G.Ok ∧ G.n ≤ 150 ∧ i + cnt G ≤ 150)) (fun iv _ _ _ _ _ _ _ _ => 151 - (Go.RowKit.intOf iv).toNat)
  case atStart =>
    obtain ⟨v, G, A, h1, h2, h3, h4⟩ := H0.out
    exact ⟨0, rfl, Hid.mk ⟨v, G, A, h1, h2, h3, h4, by have := cnt_le G; omega⟩⟩
  case round =>
    obtain ⟨i, rfl, HI⟩ := hrel
    clear H0
    obtain ⟨v, G, A, hBo, hR, hG, hGn, hic⟩ := HI.out
    have HB0 := Hid.mk hBo
    have HR : Hid (Rel G A ∧ G.Ok ∧ G.n ≤ 150 ∧ i + cnt G ≤ 150) := Hid.mk ⟨hR, hG, hGn, hic⟩
    obtain ⟨nl, hnl⟩ : ∃ nl, nl = cnt G := ⟨_, rfl⟩
    have HLF : Hid (Calls Try.prog 13 #[ptV g] wr fun e W' => e = .returned (.int .i64 (nl : Nat)) ∧ W' = wr) := Hid.mk (by
      obtain ⟨Fr, h1, _⟩ := hBo
      have := o_left h1
      rw [hR.nl, ← hnl] at this
      exact this)
    have HNL := Hid.mk hnl
    clear HI hBo hR hG hGn hic hnl
    rcases Nat.eq_zero_or_pos nl with h0 | h0
    · subst h0
      have HEND : Hid (Calls Try.prog 14 #[ptV r] wr fun e W' => e = .returned (.int .i64 ((0 : Nat) : Nat)) ∧ W' = wr) := Hid.mk (by
        obtain ⟨Fr, _, h2, _⟩ := HB0.out
        have := rleft_any h2
        rw [← HNL.out] at this
        exact this)
      have HBU : Hid (Calls Try.prog 20 #[ptV g] wr fun e W' => ∃ a c, e = .returned (.slice a 0 c) ∧ Below w.heap.size w W') := Hid.mk (by
        obtain ⟨Fr, h1, _⟩ := HB0.out
        refine (r_bufs h1 HR.out.1 HR.out.2.1 (by have := HR.out.2.2.1; omega)).mono ?_
        rintro e W' ⟨u, rfl, HQ⟩
        rw [bufs_none HNL.out.symm] at HQ
        obtain ⟨a, c, rfl, _⟩ := owns_lat HQ.out.1
        exact ⟨a, c, rfl, h1.bel.trans (HQ.out.2.mono h1.bel.size)⟩)
      clear HPS HB0
      go_wp2_with (first
        | (go_at_call 13; refine HLF.out.mono ?_; rintro e w4 ⟨rfl, hw4⟩; have hw4' := hw4.symm; clear hw4; subst hw4'; clear HLF)
        | (go_at_call 14; refine HEND.out.mono ?_; rintro e w5 ⟨rfl, hw5⟩; have hw5' := hw5.symm; clear hw5; subst hw5'; clear HEND)
        | (go_at_call 20; refine HBU.out.mono ?_; rintro e w6 ⟨a6, c6, rfl, hb6⟩; have HB6 := Hid.mk hb6; clear hb6 HBU)
        | go_in)
      go_ret
      exact ⟨rfl, HB6.out⟩
    · have hnl0 : (0 : Int) < (nl : Int) := by omega
      have HI2 : Hid (i + nl ≤ 150 ∧ 0 < G.n) := Hid.mk (by have := HR.out.2.2.2; have := HNL.out; have := cnt_le G; omega)
      have i200 : ¬ (200 : Int) < (i : Int) := by have := HI2.out; omega
      have u1 : IntKind.i64.wrap ((i : Int) + 1) = ((i + 1 : Nat) : Int) := by rw [IntKind.wrap_i64]; omega
      obtain ⟨Bl, hBl⟩ : ∃ Bl, Bl = bufP G (fun j => mayB G j) G.n := ⟨_, rfl⟩
      obtain ⟨mb, hmb⟩ : ∃ mb, mb = Bl.length := ⟨_, rfl⟩
      have HMB : Hid (mb = Bl.length ∧ 0 < mb ∧ mb ≤ 150 ∧ ∀ x ∈ Bl, nxL A x ≠ [] ∧ (Lit.int .i64 x).wf = true) := Hid.mk (by
        refine ⟨hmb, ?_, ?_, fun x hx => ready_ne HR.out.1 HR.out.2.1 (by rw [← hBl]; exact hx)⟩
        · obtain ⟨j, h1, h2⟩ := may_ex HR.out.2.1 (by rw [← HNL.out]; exact h0)
          rw [hmb, hBl]
          exact List.length_pos_of_mem (bufP_mem.2 ⟨j, h1, h2, rfl⟩)
        · rw [hmb, hBl]
          have := bufP_len G (fun j => mayB G j) G.n
          have := HR.out.2.2.1
          omega)
      have HRD : Hid (Calls Try.prog 22 #[ptV g] wr fun e W' => ∃ ab cb, e = .returned (.slice ab mb cb) ∧ Hid (LAt W' ab mb Bl ∧ Bo (fun k => (Value.slice ab mb cb).ownBlock = some k) w W' g r v G A)) := Hid.mk (by
        obtain ⟨Fr, h1, h2, h3⟩ := HB0.out
        have h := r_ready h1 HR.out.1 HR.out.2.1 (by have := HR.out.2.2.1; omega) HI2.out.2
        rw [← hBl, ← hmb] at h
        refine h.mono ?_
        rintro e W' ⟨u, rfl, HQ⟩
        obtain ⟨ab, cb, rfl, hla⟩ := owns_lat HQ.out.1
        exact ⟨ab, cb, rfl, Hid.mk ⟨hla, HB0.out.side (Only.of_new (fun _ => False) HQ.out.2) (fun _ q => q.elim) (fun k q => ⟨((hr_of HQ.out.1).2 k q).2, .inr ((hr_of HQ.out.1).2 k q).1⟩)⟩⟩)
      have hmb0 : ¬ (mb : Int) = 0 := by have := HMB.out; omega
      have hmb1 : ((mb : Int) == 0) = false := beq_eq_false_iff_ne.2 hmb0
      clear hBl hmb HB0
      go_upto_region 15 with (first
        | (go_at_call 13; refine HLF.out.mono ?_; rintro e w4 ⟨rfl, hw4⟩; have hw4' := hw4.symm; clear hw4; subst hw4'; clear HLF)
        | (go_at_call 22; refine HRD.out.mono ?_; rintro e w5 ⟨ab, cb, rfl, H5⟩; clear HRD)
        | go_in)
      have HLP := Hid.mk (HPS.out w5 H5.out.2.bel)
      have i0 : (0 : Int) ≤ (i : Int) := by omega
      go_cut [64] from 54 to 63 (fun tv W => ∃ t : Bool, tv = .bool t ∧ Hid (W = w5 ∧ (t = true → i < np ∧ 0 < Ps.getD i 0)))
      case first =>
        by_cases hin : (i : Int) < (np : Int)
        · have hd : decide ((i : Int) < (np : Int)) = true := decide_eq_true hin
          obtain ⟨a, rfl, _, hca⟩ := HLP.out.2 (by omega)
          have q1 := hca i (by omega)
          have HPV : Hid (i < np) := Hid.mk (by omega)
          generalize hpv : Ps.getD i 0 = pv at q1
          have HPE := Hid.mk hpv
          clear hca hpv
          by_cases hp : 0 < pv
          · have HP0 := Hid.mk hp
            go_wp2
            go_meet
            case rel => exact ⟨true, rfl, Hid.mk ⟨rfl, fun _ => ⟨HPV.out, by rw [HPE.out]; exact HP0.out⟩⟩⟩
          · go_wp2
            go_meet
            case rel => exact ⟨false, rfl, Hid.mk ⟨rfl, fun e => by cases e⟩⟩
        · have hd : decide ((i : Int) < (np : Int)) = false := decide_eq_false hin
          go_wp2
          go_meet
          case rel => exact ⟨false, rfl, Hid.mk ⟨rfl, fun e => by cases e⟩⟩
      case rest =>
      obtain ⟨t, rfl, HT⟩ := hcut
      obtain ⟨ew, htt⟩ := HT.out
      have ew' := ew.symm
      clear ew
      subst ew'
      have HTT := Hid.mk htt
      clear HT htt
      go_upto_if 64 with fail
      go_cut [12] from 65 to 71 (fun kv W' => ∃ kk : Nat, kv = .int .i64 kk ∧ Hid (W' = w5 ∧ kk < mb))
      case first =>
        cases t with
        | false =>
          go_wp2
          go_meet
          case rel => exact ⟨0, rfl, Hid.mk ⟨rfl, HMB.out.2.1⟩⟩
        | true =>
          obtain ⟨q1, q2⟩ := HTT.out rfl
          have hin : (i : Int) < (np : Int) := by omega
          obtain ⟨a, rfl, _, hca⟩ := HLP.out.2 (by omega)
          have q3 := hca i q1
          generalize Ps.getD i 0 = pv at q3 q2
          have hmp : 0 < mb := HMB.out.2.1
          have hmq : mb ≤ 150 := HMB.out.2.2.1
          obtain ⟨kk, hkk⟩ : ∃ kk : Nat, kk = (pv % (mb : Int)).toNat := ⟨_, rfl⟩
          have h1 : 0 ≤ pv % (mb : Int) := Int.emod_nonneg _ (by omega)
          have h2 : pv % (mb : Int) < (mb : Int) := Int.emod_lt_of_pos _ (by omega)
          have hkm : Hid (kk < mb) := Hid.mk (by omega)
          have hk2 : Int.tmod pv (mb : Int) = ((kk : Nat) : Int) := by rw [Int.tmod_eq_emod_of_nonneg (by omega)]; omega
          have hk3 : IntKind.i64.wrap ((kk : Nat) : Int) = ((kk : Nat) : Int) := by rw [IntKind.wrap_i64]; omega
          clear h1 h2 hkk hca q1 hmp hmq
          go_wp2
          go_meet
          case rel => exact ⟨kk, rfl, Hid.mk ⟨rfl, hkm.out⟩⟩
      case rest =>
      obtain ⟨kk, rfl, HKK⟩ := hcut
      obtain ⟨ew, hkk⟩ := HKK.out
      have ew' := ew.symm
      clear ew
      subst ew'
      clear HKK HTT HLP HPS
      obtain ⟨aB, rfl, _, hcB⟩ := H5.out.1.2 HMB.out.2.1
      have qb := hcB kk hkk
      have HXM : Hid (Bl.getD kk 0 ∈ Bl) := Hid.mk (by
        have : kk < Bl.length := by rw [← HMB.out.1]; exact hkk
        rw [List.getD, List.getElem?_eq_getElem this]
        exact List.getElem_mem _)
      have HKK := Hid.mk hkk
      obtain ⟨x, hx⟩ : ∃ x, x = Bl.getD kk 0 := ⟨_, rfl⟩
      rw [← hx] at qb HXM
      have HXX : Hid (nxL A x ≠ [] ∧ (Lit.int .i64 x).wf = true) := Hid.mk (HMB.out.2.2.2 x HXM.out)
      have HBX : Hid (∀ W, LAt W (some aB) mb Bl → W.cell? (aB.add kk) = some (.int .i64 x)) := Hid.mk (fun W h => by
        obtain ⟨a, e, _, hc⟩ := h.2 HMB.out.2.1
        cases e
        rw [hx]
        exact hc kk HKK.out)
      obtain ⟨S, hS⟩ : ∃ S, S = nxL A x := ⟨_, rfl⟩
      obtain ⟨mw, hmw⟩ : ∃ mw, mw = S.length := ⟨_, rfl⟩
      have HSM : Hid (mw = S.length ∧ 0 < mw ∧ mw ≤ 150 ∧ (∀ y ∈ S, mayP G y ∧ G.buf y = x) ∧ S ≠ []) := Hid.mk (by
        obtain ⟨p1, p2⟩ := nx_pw HR.out.1 x
        rw [← hS] at p1 p2
        have hne : S ≠ [] := by rw [hS]; exact HXX.out.1
        refine ⟨hmw, ?_, ?_, fun y hy => (p2 y).1 hy, hne⟩
        · rw [hmw]; exact List.length_pos_iff.2 hne
        · have := rise_len p1 (fun y hy => ((p2 y).1 hy).1.1.1)
          have := HR.out.2.2.1
          omega)
      have HWR : Hid (Calls Try.prog 25 #[ptV g, .int .i64 x] w5 fun e W' => ∃ aw cw, e = .returned (.slice (some aw) mw cw) ∧ Hid (DSt (fun k => (Value.slice (some aB) mb cb).ownBlock = some k) w g r v (some aw) mw cw S (some aB) mb Bl G (A.fins S) W')) := Hid.mk (by
        have h := bu_written3 H5.out.2 HR.out.1 HR.out.2.1 (by have := HR.out.2.2.1; omega) x HXX.out.2
        rw [← hS, ← hmw] at h
        refine h.mono ?_
        rintro e W' ⟨ao, c, rfl, HQ⟩
        obtain ⟨q1, q2, q3, q4⟩ := HQ.out
        obtain ⟨aw, rfl, _, _⟩ := q1.2 HSM.out.2.1
        exact ⟨aw, c, rfl, Hid.mk ⟨q1, lat_keep H5.out.1 (fun a e _ => q3 _ (by rw [e]; rfl)) q4, q2⟩⟩)
      have HFI : Hid (Rel (G.fins S) (A.fins S) ∧ (G.fins S).Ok ∧ (G.fins S).n ≤ 150 ∧ i + 1 + cnt (G.fins S) ≤ 150) := Hid.mk (by
        have h1 := cnt_fins_lt (G := G) (S := S) (fun y hy => (HSM.out.2.2.2.1 y hy).1) HSM.out.2.2.2.2
        have h2 := HI2.out
        have h3 := HNL.out
        refine ⟨by rw [hS]; exact rel_written HR.out.1 x, ok_fins HR.out.2.1 _, by rw [(fins_same _).1]; exact HR.out.2.2.1, by omega⟩)
      generalize A.fins S = A2 at HWR HFI
      have hmw0 : ¬ (mw : Int) = 0 := by have := HSM.out; omega
      have hmw1 : ((mw : Int) == 0) = false := beq_eq_false_iff_ne.2 hmw0
      have kb : (kk : Int) < (mb : Int) := by omega
      have kz : (0 : Int) ≤ (kk : Int) := by omega
      clear hS hmw hx hcB hkk H5 HXM HXX HNL
      go_upto_region 20 with (first
        | (go_at_call 25; refine HWR.out.mono ?_; rintro e w6 ⟨aw, cw, rfl, H6⟩; clear HWR)
        | go_in)
      clear qb
      obtain ⟨nG, hnG⟩ : ∃ nG, nG = G.n := ⟨_, rfl⟩
      obtain ⟨gb, cap, hv, _⟩ := H6.out.2.2.at' HI2.out.2
      rw [← hnG] at hv
      subst hv
      have HNG := Hid.mk hnG
      clear hnG
      have HCL : Hid (∀ W, DSt (fun k => (Value.slice (some aB) mb cb).ownBlock = some k) w g r (.slice (some ⟨gb, 0, none⟩) nG cap) (some aw) mw cw S (some aB) mb Bl G A2 W → W.cell? ⟨r, 0, none⟩ = some (.slice (some ⟨gb, 0, none⟩) nG cap) ∧ (∀ j : Nat, j < nG → W.cell? ⟨gb, j * 3, none⟩ = some (.int .i64 (G.buf j)) ∧ (∃ ao m cc, W.cell? ⟨gb, j * 3 + 1, none⟩ = some (.slice ao m cc) ∧ LAt W ao m (G.on j) ∧ m ≤ 1000000) ∧ W.cell? ⟨gb, j * 3 + 2, none⟩ = some (.bool (G.dn j))) ∧ W.cell? (aB.add kk) = some (.int .i64 x) ∧ ∀ j, j < mw → W.cell? (aw.add j) = some (.int .i64 (S.getD j 0))) := Hid.mk (fun W h => by
        obtain ⟨gb', cap', e, _, _, _, hc, _⟩ := h.2.2.at' HI2.out.2
        rw [← HNG.out] at e hc
        cases e
        refine ⟨h.2.2.cell, hc, HBX.out W h.2.1, fun j hj => ?_⟩
        obtain ⟨a, e, _, hca⟩ := h.1.2 HSM.out.2.1
        cases e
        exact hca j hj)
      have HSY : Hid (∀ j, j < mw → ∃ y : Nat, S.getD j 0 = (y : Int) ∧ y < nG ∧ G.buf y = x ∧ G.dn y = false ∧ ∀ z ∈ G.on y, ∃ zn : Nat, z = (zn : Int) ∧ zn < nG ∧ G.dn zn = true) := Hid.mk (fun j hj => by
        have hm : S.getD j 0 ∈ S := by
          have : j < S.length := by rw [← HSM.out.1]; exact hj
          rw [List.getD, List.getElem?_eq_getElem this]
          exact List.getElem_mem _
        obtain ⟨q1, q2⟩ := HSM.out.2.2.2.1 _ hm
        have hb := q1.1.1
        rw [HNG.out]
        refine ⟨(S.getD j 0).toNat, by omega, by omega, ?_⟩
        rw [show (((S.getD j 0).toNat : Nat) : Int) = S.getD j 0 by omega]
        refine ⟨q2, q1.1.2, fun z hz => ?_⟩
        have hd := HR.out.2.1.dag _ z hb hz
        refine ⟨z.toNat, by omega, by omega, ?_⟩
        rw [show ((z.toNat : Nat) : Int) = z by omega]
        cases hdz : G.dn z with
        | true => rfl
        | false => exact absurd ⟨hz, ⟨hd.1, by omega⟩, hdz⟩ (q1.2 z))
      go_wp2
      go_loopw [14, 15, 16] (fun jv _ _ wr => ∃ j : Nat, jv = .int .i64 j ∧ Hid (j ≤ mw ∧ DSt (fun k => (Value.slice (some aB) mb cb).ownBlock = some k) w g r (.slice (some ⟨gb, 0, none⟩) nG cap) (some aw) mw cw S (some aB) mb Bl G A2 wr)) (fun jv _ _ _ => mw - (Go.RowKit.intOf jv).toNat)
      case atStart => exact ⟨0, rfl, Hid.mk ⟨Nat.zero_le _, H6.out⟩⟩
      case round =>
        obtain ⟨j, rfl, HJ⟩ := hrel
        clear H6
        by_cases hjl : (j : Int) < (mw : Int)
        · have HJL : Hid (j < mw) := Hid.mk (by omega)
          have v1 : IntKind.i64.wrap ((j : Int) + 1) = ((j + 1 : Nat) : Int) := by have := HSM.out; rw [IntKind.wrap_i64]; omega
          have HST := Hid.mk HJ.out.2
          have j0 : (0 : Int) ≤ (j : Int) := by omega
          obtain ⟨y, hy, hyn, hyb, hyd, hyo⟩ := HSY.out j HJL.out
          obtain ⟨c0, hc, cB, cw'⟩ := HCL.out wr HST.out
          have c1 := cw' j HJL.out
          rw [hy] at c1
          obtain ⟨d1, ⟨ao, m, oc, d2, dl, dm⟩, d3⟩ := hc y hyn
          rw [hyb] at d1
          rw [hyd] at d3
          have y0 : (0 : Int) ≤ (y : Int) := by omega
          have y1 : (y : Int) < (nG : Int) := by omega
          have hd1 : decide ((y : Int) < 0) = false := decide_eq_false (by omega)
          have hd2 : decide ((nG : Int) ≤ (y : Int)) = false := decide_eq_false (by omega)
          have hd3 : decide (nG ≤ y) = false := decide_eq_false (by omega)
          have e9 : (⟨gb, 0, none⟩ : Addr).add (y * 3) = ⟨gb, y * 3, none⟩ := by rw [add_at]; simp
          have HYO := Hid.mk hyo
          have HDL : Hid (LAt wr ao m (G.on y) ∧ m ≤ 1000000) := Hid.mk ⟨dl, dm⟩
          clear hy hyb hyd hyo hc cw' dl dm HJ hyn
          go_wp2
          go_quiet (fail)
          go_wp2
          go_quiet (fail)
          go_wp2
          clear c0 c1 cB d1 d2 d3
          go_loopw [16] (fun qv wr => ∃ q : Nat, qv = .int .i64 q ∧ Hid (q ≤ m ∧ DSt (fun k => (Value.slice (some aB) mb cb).ownBlock = some k) w g r (.slice (some ⟨gb, 0, none⟩) nG cap) (some aw) mw cw S (some aB) mb Bl G A2 wr ∧ LAt wr ao m (G.on y))) (fun qv _ => m - (Go.RowKit.intOf qv).toNat)
          case atStart => exact ⟨0, rfl, Hid.mk ⟨Nat.zero_le _, HST.out.grow ((below_drewN' wr _ _ (Nat.le_refl _)).trans (below_drewN' (wr.drewN _) _ wr.heap.size (Nat.le_refl _))), HDL.out.1.next ((below_drewN' wr _ _ (Nat.le_refl _)).trans (below_drewN' (wr.drewN _) _ wr.heap.size (Nat.le_refl _)))⟩⟩
          case round =>
            obtain ⟨q, rfl, HQ⟩ := hrel
            clear HST
            by_cases hql : (q : Int) < (m : Int)
            · have HQL : Hid (q < m) := Hid.mk (by omega)
              have v2 : IntKind.i64.wrap ((q : Int) + 1) = ((q + 1 : Nat) : Int) := by have := HDL.out.2; rw [IntKind.wrap_i64]; omega
              have q0 : (0 : Int) ≤ (q : Int) := by omega
              obtain ⟨c0, hc, _, _⟩ := HCL.out _ HQ.out.2.1
              obtain ⟨ao', rfl, _, hca⟩ := HQ.out.2.2.2 (by omega)
              have c1 := hca q HQL.out
              obtain ⟨zn, hz, hzn, hzd⟩ := HYO.out ((G.on y).getD q 0) (by
                have : q < (G.on y).length := by rw [HQ.out.2.2.1]; exact HQL.out
                rw [List.getD, List.getElem?_eq_getElem this]
                exact List.getElem_mem _)
              rw [hz] at c1
              have d3 := (hc zn hzn).2.2
              rw [hzd] at d3
              have z0 : (0 : Int) ≤ (zn : Int) := by omega
              have z1 : (zn : Int) < (nG : Int) := by omega
              have e9 : (⟨gb, 0, none⟩ : Addr).add (zn * 3) = ⟨gb, zn * 3, none⟩ := by rw [add_at]; simp
              have HG2 : Hid (∀ x, DSt (fun k => (Value.slice (some aB) mb cb).ownBlock = some k) w g r (.slice (some ⟨gb, 0, none⟩) nG cap) (some aw) mw cw S (some aB) mb Bl G A2 (wr.drewN x) ∧ LAt (wr.drewN x) (some ao') m (G.on y)) := Hid.mk (fun x => ⟨HQ.out.2.1.grow (below_drewN' wr _ _ (Nat.le_refl _)), HQ.out.2.2.next (below_drewN' wr _ _ (Nat.le_refl _))⟩)
              clear hc hca hz hzn hzd HQ
              go_wp2
              go_quiet (fail)
              go_wp2
              go_roundw
              case rel => exact ⟨q + 1, rfl, Hid.mk ⟨HQL.out, HG2.out _⟩⟩
              case measure => (have := HQL.out; simp [Go.RowKit.intOf]; omega)
            · have HNX := Hid.mk HQ.out.2.1
              clear HQ
              go_wp2
              go_roundw
              case rel => exact ⟨j + 1, rfl, Hid.mk ⟨HJL.out, HNX.out⟩⟩
              case measure => (have := HJL.out; simp [Go.RowKit.intOf]; omega)
        · have HST := Hid.mk HJ.out.2
          clear HJ HCL HBX
          go_wp2
          go_loopw [17] (fun kv wr => ∃ k : Nat, kv = .int .i64 k ∧ Hid (k ≤ mw ∧ LAt wr (some aw) mw S ∧ Bu (fun k => (Value.slice (some aB) mb cb).ownBlock = some k) w wr g r (.slice (some ⟨gb, 0, none⟩) nG cap) (.slice (some aw) mw cw) (G.fins (S.take k)) A2)) (fun kv _ => mw - (Go.RowKit.intOf kv).toNat)
          case atStart => exact ⟨0, rfl, Hid.mk ⟨Nat.zero_le _, HST.out.1, HST.out.2.2⟩⟩
          case round =>
            obtain ⟨k, rfl, HK⟩ := hrel
            clear HST
            by_cases hkl : (k : Int) < (mw : Int)
            · have HKL : Hid (k < mw ∧ k < S.length) := Hid.mk (by have := HSM.out; omega)
              have v1 : IntKind.i64.wrap ((k : Int) + 1) = ((k + 1 : Nat) : Int) := by have := HSM.out; rw [IntKind.wrap_i64]; omega
              have k0 : (0 : Int) ≤ (k : Int) := by omega
              obtain ⟨y, hy, hyn, _⟩ := HSY.out k HKL.out.1
              obtain ⟨a', ea, _, hca⟩ := HK.out.2.1.2 (by omega)
              cases ea
              have q1 := hca k HKL.out.1
              rw [hy] at q1
              have e1 := (fins_same (S.take k) (G := G)).1
              obtain ⟨gb', cap', ev, hug, hgr, hfz, hcc, hst⟩ := HK.out.2.2.at' (by rw [e1, ← HNG.out]; omega)
              rw [e1, ← HNG.out] at ev hcc hst
              cases ev
              have c0 := HK.out.2.2.cell
              have d3 := (hcc y hyn).2.2
              have HTK := Hid.mk (take_snocG HKL.out.2)
              rw [hy] at HTK
              have y1 : ((y : Nat) : Int) < (nG : Int) := by omega
              have y0 : (0 : Int) ≤ ((y : Nat) : Int) := by omega
              have e9 : (⟨gb, 0, none⟩ : Addr).add (y * 3) = ⟨gb, y * 3, none⟩ := by rw [add_at]; simp
              have hwb : aw.block ≠ gb := fun e => hug (by rw [← e]; rfl)
              have hH : (fun W : World => W.cell? ⟨r, 0, none⟩ = some (.slice (some ⟨gb, 0, none⟩) nG cap) ∧ W.cell? (aw.add k) = some (.int .i64 (y : Nat))) wr.drew := ⟨c0, q1⟩
              have HS1 : Hid ((fun W : World => W.cell? ⟨r, 0, none⟩ = some (.slice (some ⟨gb, 0, none⟩) nG cap) ∧ W.cell? (aw.add k) = some (.int .i64 (y : Nat))) (wr.drew.setCell ⟨gb, y * 3 + 2, none⟩ (.bool true))) := Hid.mk ⟨by
                  rw [World.cell?_of_block (w := wr.drew) (Below.heap_setCell _ _ _ _ (fun e => hgr e.symm))]
                  exact c0, by
                  rw [World.cell?_of_block (w := wr.drew) (Below.heap_setCell _ _ _ _ (fun e => hwb (by rw [add_block] at e; exact e)))]
                  exact q1⟩
              have d3' : wr.drew.cell? ⟨gb, y * 3 + 2, none⟩ = some (.bool ((G.fins (S.take k)).dn y)) := d3
              have f3 : wr.drew.frozen? ⟨gb, y * 3 + 2, none⟩ = false := hfz _
              have HNX : Hid (LAt (wr.drew.setCell ⟨gb, y * 3 + 2, none⟩ (.bool true)) (some aw) mw S ∧ Bu (fun k => (Value.slice (some aB) mb cb).ownBlock = some k) w (wr.drew.setCell ⟨gb, y * 3 + 2, none⟩ (.bool true)) g r (.slice (some ⟨gb, 0, none⟩) nG cap) (.slice (some aw) mw cw) (G.fins (S.take (k + 1))) A2) := Hid.mk ⟨lat_keep (HK.out.2.1.next (drew_below wr)) (fun a ea _ => by cases ea; exact Below.heap_setCell _ _ _ _ hwb) (by simp), by
                  obtain ⟨gb', cap', ev, _, _, _, _, hst⟩ := (HK.out.2.2.grow (drew_below wr)).at' (by rw [e1, ← HNG.out]; omega)
                  rw [e1, ← HNG.out] at ev hst
                  cases ev
                  rw [HTK.out, fins_snoc]
                  exact hst y hyn⟩
              clear hca hcc hst HK HTK hyn hy e1 c0 d3 hfz q1 hug hgr hwb
              go_wp2
              refine wp_region_held_drew (S := fun W : World => W.cell? ⟨r, 0, none⟩ = some (.slice (some ⟨gb, 0, none⟩) nG cap) ∧ W.cell? (aw.add k) = some (.int .i64 (y : Nat))) (by kernel_rfl) hH (fun hH => ?_)
              change wpAnyH Try.prog Region.Mode.any _ _ _ 11 _ _ _
              refine takeH 0 170 (.pointer (some ⟨r, 0, none⟩)) rfl (by kernel_rfl) (by kernel_rfl) (by kernel_rfl) (by kernel_rfl) (fun _ _ _ h => h) (by kernel_rfl) (fun w hw => by kernel_rfl) hH ?_
              simp only [List.setIfInBounds_toArray, List.set_cons_zero, List.set_cons_succ]
              refine takeH 1 171 (.pointer (some ⟨r, 0, none⟩)) rfl (by kernel_rfl) (by kernel_rfl) (by kernel_rfl) (by kernel_rfl) (fun _ _ _ h => h) (by kernel_rfl) (fun w hw => by go_simp) hH ?_
              simp only [List.setIfInBounds_toArray, List.set_cons_zero, List.set_cons_succ]
              refine takeH 2 172 (.pointer (some ⟨r, 0, none⟩)) rfl (by kernel_rfl) (by kernel_rfl) (by kernel_rfl) (by kernel_rfl) (fun _ _ _ h => h) (by kernel_rfl) (fun w hw => by go_simp) hH ?_
              simp only [List.setIfInBounds_toArray, List.set_cons_zero, List.set_cons_succ]
              refine takeH 3 173 (.slice (some ⟨gb, 0, none⟩) nG cap) rfl (by kernel_rfl) (by kernel_rfl) (by kernel_rfl) (by kernel_rfl) (fun _ _ _ h => h) (by kernel_rfl) (fun w hw => by (try dsimp only at hw); obtain ⟨hw1, hw2⟩ := hw; go_simp) hH ?_
              simp only [List.setIfInBounds_toArray, List.set_cons_zero, List.set_cons_succ]
              refine takeH 4 174 (.slice (some aw) mw cw) rfl (by kernel_rfl) (by kernel_rfl) (by kernel_rfl) (by kernel_rfl) (fun _ _ _ h => h) (by kernel_rfl) (fun w hw => by kernel_rfl) hH ?_
              simp only [List.setIfInBounds_toArray, List.set_cons_zero, List.set_cons_succ]
              refine takeH 5 175 (.int .i64 k) rfl (by kernel_rfl) (by kernel_rfl) (by kernel_rfl) (by kernel_rfl) (fun _ _ _ h => h) (by kernel_rfl) (fun w hw => by kernel_rfl) hH ?_
              simp only [List.setIfInBounds_toArray, List.set_cons_zero, List.set_cons_succ]
              refine takeH 6 176 (.pointer (some (aw.add k))) rfl (by kernel_rfl) (by kernel_rfl) (by kernel_rfl) (by kernel_rfl) (fun _ _ _ h => h) (by kernel_rfl) (fun w hw => by go_simp) hH ?_
              simp only [List.setIfInBounds_toArray, List.set_cons_zero, List.set_cons_succ]
              refine takeH 7 177 (.int .i64 (y : Nat)) rfl (by kernel_rfl) (by kernel_rfl) (by kernel_rfl) (by kernel_rfl) (fun _ _ _ h => h) (by kernel_rfl) (fun w hw => by (try dsimp only at hw); obtain ⟨hw1, hw2⟩ := hw; go_simp) hH ?_
              simp only [List.setIfInBounds_toArray, List.set_cons_zero, List.set_cons_succ]
              refine takeH 8 178 (.pointer (some ⟨gb, y * 3, none⟩)) rfl (by kernel_rfl) (by kernel_rfl) (by kernel_rfl) (by kernel_rfl) (fun _ _ _ h => h) (by kernel_rfl) (fun w hw => by go_simp) hH ?_
              simp only [List.setIfInBounds_toArray, List.set_cons_zero, List.set_cons_succ]
              refine takeH 9 179 (.pointer (some ⟨gb, y * 3 + 2, none⟩)) rfl (by kernel_rfl) (by kernel_rfl) (by kernel_rfl) (by kernel_rfl) (fun _ _ _ h => h) (by kernel_rfl) (fun w hw => by go_simp) hH ?_
              simp only [List.setIfInBounds_toArray, List.set_cons_zero, List.set_cons_succ]
              refine stepH_one 10 (by kernel_rfl) ?_
              refine opH_store 10 (wr.drew.setCell ⟨gb, y * 3 + 2, none⟩ (.bool true)) rfl (by kernel_rfl) (by kernel_rfl) (by go_simp) HS1.out ?_
              refine wpAnyH_done (by kernel_rfl) ?_ _
              go_wp2
              go_roundw
              case rel => exact ⟨k + 1, rfl, Hid.mk ⟨HKL.out.1, HNX.out⟩⟩
              case measure => (have := HKL.out.1; simp [Go.RowKit.intOf]; omega)
            · have HE : Hid (Bo (fun _ => False) w wr g r (.slice (some ⟨gb, 0, none⟩) nG cap) (G.fins S) A2) := Hid.mk (by
                have h := HK.out.2.2
                rw [List.take_of_length_le (by have := HSM.out.1; omega)] at h
                exact h.bo.side (Only.refl (fun _ => False) wr) (fun _ q => q.elim) (fun _ q => q.elim))
              clear HK HSY
              go_wp2
              go_roundw
              case rel => exact ⟨i + 1, rfl, Hid.mk ⟨_, _, _, HE.out, HFI.out⟩⟩
              case measure => (have := HI2.out; simp [Go.RowKit.intOf]; omega)
end Go.Proofs.Ythmbhcmicebcpaa
