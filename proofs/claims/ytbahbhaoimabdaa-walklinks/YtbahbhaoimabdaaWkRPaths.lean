/-
  The reference's Paths.
-/
import Derived.Test.YtbahbhaoimabdaaWkRFind
namespace Go.Proofs.Ytbahbhaoimabdaa
open Go Go.Proofs Go.RowKit Go.Shelf

theorem wpLB_append {w : World} {ops : Array Oper} {rest : List Oper} {o : Oper} {a : Act} {Q : Exit → Act → World → Prop} (hw : Region.wanted o (yielded ops a.tmps) = true) (s x : Operand) (t : TypeId) (ho : o.op = .call { callee := .builtin .append, args := #[s, x], argTypes := #[t, t] }) (v vx v' : Value) (w' : World) (hs : a.eval s = v) (hx : a.eval x = vx)
    (hrun : (Builtin.append_ #[t, t] o.type #[v, vx]).run Try.prog w = .ok v' w') (h : wpList Try.prog ops Q rest (a.put o.dst v') w') : wpList Try.prog ops Q (o :: rest) a w :=
  wpList_knownS hw v' w' (by simp [execOp, ho, resolve, invoke, builtin, hs, hx, hrun, Result.andThen]) h
/-- The reference's way down: its nodes, what it has seen, what it tells. -/
structure RpI (w0 : World) (ao : Option Addr) (m cc pb gb gc : Nat) (G : Gone) (X : List ByteArray) (W : World) : Prop where
  row : ∃ v, W.heap[pb]? = some (.cells #[.slice ao m cc, .slice (some ⟨gb, 0, none⟩) m gc, v] 63 (0, 0)) ∧ W.ownsRow w0.heap.size 9 1 v X.length (Sb X) ∧ v.ownBlock ≠ some pb ∧ v.ownBlock ≠ some gb
  gone : GoAt W gb m G
  below : Below w0.heap.size w0 W
  apart : w0.heap.size ≤ pb ∧ w0.heap.size ≤ gb ∧ pb ≠ gb
section
variable {w0 A B : World} {ao : Option Addr} {m cc pb gb gc : Nat} {G : Gone} {X : List ByteArray}
theorem RpI.blw (h : RpI w0 ao m cc pb gb gc G X A) (hB : Below A.heap.size A B) : RpI w0 ao m cc pb gb gc G X B := by
  obtain ⟨v, h1, h2, h3, h4⟩ := h.row
  exact ⟨⟨v, (hB.block _ (lt_of_block h1)).trans h1, owns_at h2 (fun j e => hB.block j (owns_lt h2 j e).2), h3, h4⟩, h.gone.kept (hB.block _ h.gone.lt), h.below.trans (hB.mono h.below.size), h.apart⟩
theorem RpI.lt (h : RpI w0 ao m cc pb gb gc G X A) : pb < A.heap.size := by
  obtain ⟨v, h1, -⟩ := h.row
  exact lt_of_block h1
theorem RpI.set (h : RpI w0 ao m cc pb gb gc G X A) {d : Nat} (hd : d < m) : RpI w0 ao m cc pb gb gc (goneF G d) X (A.setCell ⟨gb, d, none⟩ (.bool true)) := by
  obtain ⟨v, h1, h2, h3, h4⟩ := h.row
  have hk : ∀ b, b ≠ gb → (A.setCell ⟨gb, d, none⟩ (.bool true)).heap[b]? = A.heap[b]? := fun b hb => Below.heap_setCell _ _ _ _ hb
  exact ⟨⟨v, (hk _ h.apart.2.2).trans h1, owns_at h2 (fun j e => hk j (fun q => h4 (by rw [e, q]))), h3, h4⟩, h.gone.set hd, h.below.setCell (p := ⟨gb, d, none⟩) h.apart.2.1 _, h.apart⟩
end
/-- The rows that are told grow by one. -/
theorem rp_push {w0 A : World} {ao : Option Addr} {m cc pb gb gc : Nat} {G : Gone} {X : List ByteArray} (h : RpI w0 ao m cc pb gb gc G X A) (s : ByteArray) (hn : X.length ≤ 16777216) : ∃ (va va' : Option Addr) (vc vc' : Nat) (W' : World), A.heap[pb]? = some (.cells #[.slice ao m cc, .slice (some ⟨gb, 0, none⟩) m gc, .slice va X.length vc] 63 (0, 0)) ∧
    (Builtin.append_ #[31, 31] 31 #[.slice va X.length vc, .slice (some ⟨A.heap.size, 0, none⟩) 1 1]).run Try.prog (A.alloc (.cells #[.string s] 9)) = .ok (.slice va' (X.length + 1) vc') W' ∧
    W'.heap[pb]? = A.heap[pb]? ∧ A.heap.size ≤ W'.heap.size ∧ (∀ b, b < A.heap.size → b ≠ pb → b ≠ gb → b < w0.heap.size ∨ (∃ o : Array Value, A.heap[b]? = some (.cells o 41 (0, 0))) → (W'.setCell ⟨pb, 2, none⟩ (.slice va' (X.length + 1) vc')).heap[b]? = A.heap[b]?) ∧ RpI w0 ao m cc pb gb gc G (X ++ [s]) (W'.setCell ⟨pb, 2, none⟩ (.slice va' (X.length + 1) vc')) := by
  obtain ⟨v, h1, h2, h3, h4⟩ := h.row
  obtain ⟨va, vc, rfl⟩ := owns_slice h2
  obtain ⟨v', W', hr, hown, hgr, hat⟩ := appendB_run A w0.heap.size (.slice va X.length vc) X.length X s h2 h.below.size hn
  obtain ⟨va', vc', rfl⟩ := owns_slice hown
  have hlt := owns_lt h2
  have hkeep : ∀ b, b < A.heap.size → (Value.slice va X.length vc).ownBlock ≠ some b → W'.heap[b]? = A.heap[b]? := fun b hb hc => by
    rw [hgr.block b (by simp; omega) (fun e => hc e.symm), Below.heap_alloc _ _ _ hb]
  have hsz : A.heap.size + 1 ≤ W'.heap.size := by have := hgr.size; simp at this; exact this
  have hpb : W'.heap[pb]? = A.heap[pb]? := hkeep _ h.lt h3
  have hst : ∀ b, b ≠ pb → (W'.setCell ⟨pb, 2, none⟩ (.slice va' (X.length + 1) vc')).heap[b]? = W'.heap[b]? := fun b hb => Below.heap_setCell _ _ _ _ hb
  have hnp : (Value.slice va' (X.length + 1) vc').ownBlock ≠ some pb := by
    rcases hat with q | q
    · rw [q]; exact h3
    · rw [q]; intro e; have := h.lt; cases e; omega
  have hng : (Value.slice va' (X.length + 1) vc').ownBlock ≠ some gb := by
    rcases hat with q | q
    · rw [q]; exact h4
    · rw [q]; intro e; have := h.gone.lt; cases e; omega
  have hgb : (W'.setCell ⟨pb, 2, none⟩ (.slice va' (X.length + 1) vc')).heap[gb]? = A.heap[gb]? := (hst _ (fun e => h.apart.2.2 e.symm)).trans (hkeep _ h.gone.lt h4)
  refine ⟨va, va', vc, vc', W', h1, hr, hpb, by omega, fun b hb hp hg hc => (hst b hp).trans (hkeep b hb (fun e => ?_)), ⟨⟨.slice va' (X.length + 1) vc', ?_, ?_, hnp, hng⟩, h.gone.kept hgb, ?_, h.apart⟩⟩
  · rcases hc with hc | ⟨o, ho⟩
    · have := hlt b e; omega
    · rcases h2.2 with ⟨q, -⟩ | ⟨g, cap, cur, q, -, hh, -⟩
      · rw [q] at e; cases e
      · rw [q] at e
        cases e
        rw [hh] at ho
        cases ho
  · rw [blk_set (hpb.trans h1)]
    rfl
  · have := owns_at hown (w' := W'.setCell ⟨pb, 2, none⟩ (.slice va' (X.length + 1) vc')) (fun j e => hst j (fun q => hnp (by rw [e, q])))
    simpa using this
  · refine ⟨hgr.os.trans h.below.os, hgr.tape.trans h.below.tape, hgr.output.trans h.below.output, ?_, fun b hb => ?_⟩
    · have := h.below.size
      simp [World.setCell]
      omega
    · rw [hst b (by have := h.apart.1; omega), hkeep b (by have := h.below.size; omega) (fun e => by have := hlt b e; omega)]
      exact h.below.block b hb
set_option maxRecDepth 100000 in
set_option maxHeartbeats 4000000 in
theorem rdown_any {w0 : World} {ao : Option Addr} {m cc pb gb gc : Nat} {Nd : Nat → NoV} (hN : NoAt w0 ao m Nd) (hnm : ∀ d j, d < m → j < (Nd d).sn → ((Nd d).E j).nm.size ≤ 1000) (hm : m ≤ 16777216) :
    ∀ (fuel d : Nat) (pre : ByteArray) (G : Gone) (X : List ByteArray) (W : World), d < m → pre.size ≤ 500 → 501 ≤ pre.size + fuel → RpI w0 ao m cc pb gb gc G X W → X.length + (intoS m Nd fuel G d pre).1.length < 10000 →
      Calls Try.prog 26 #[.pointer (some ⟨pb, 0, none⟩), .int .i64 d, .string pre] W fun e W' => (∃ v, e = .returned v) ∧ RpI w0 ao m cc pb gb gc (intoS m Nd fuel G d pre).2 (X ++ (intoS m Nd fuel G d pre).1) W' := by
  intro fuel
  induction fuel with
  | zero => intro d pre G X W hd hp hf; omega
  | succ f ih =>
    intro d pre G X W hd hp hf hI hX
    rw [intoS] at hX ⊢
    have IH := Hid.mk ih
    have HF := Hid.mk hf
    have HX := Hid.mk hX
    have HN := Hid.mk hN
    have HNM := Hid.mk hnm
    have HMM := Hid.mk hm
    obtain ⟨v, h1, h2, -, -⟩ := hI.row
    obtain ⟨va, vc, rfl⟩ := owns_slice h2
    obtain ⟨c0, f0⟩ := hI.gone.cell hd
    have p0 := blk_cell h1 0
    have p1 := blk_cell h1 1
    simp at p0 p1
    have h0d : (0 : Int) ≤ (d : Int) := by omega
    have hdm : (d : Int) < (m : Int) := by omega
    have HI0 := Hid.mk (hI.set hd)
    clear ih hf hX hN hnm hm hI h1 h2
    go_enter Try.func26, Try.ntmps26
    go_upto_region 1 with fail
    generalize W.setCell ⟨gb, d, none⟩ (.bool true) = Y at *
    clear c0 f0 p0 p1
    go_wp2
    go_loopw [6] (fun iv wr => ∃ j : Nat, j ≤ (Nd d).sn ∧ iv = .int .i64 (j : Int) ∧ Hid (RpI w0 ao m cc pb gb gc (slotS m Nd (intoS m Nd f) pre (Nd d).E (goneF G d) j).2 (X ++ (slotS m Nd (intoS m Nd f) pre (Nd d).E (goneF G d) j).1) wr)) (fun iv _ => (((Nd d).sn : Int) - Go.RowKit.intOf iv).toNat)
    case atStart => exact ⟨0, by omega, rfl, Hid.mk (by simpa [slotS] using HI0.out)⟩
    case round =>
      obtain ⟨j, hj, rfl, HK⟩ := hrel
      obtain ⟨v, h1, h2, -, -⟩ := HK.out.row
      obtain ⟨ll, hll⟩ : ∃ ll, ll = (X ++ (slotS m Nd (intoS m Nd f) pre (Nd d).E (goneF G d) j).1).length := ⟨_, rfl⟩
      rw [← hll] at h2
      have HLL := Hid.mk hll
      clear hll
      obtain ⟨va, vc, rfl⟩ := owns_slice h2
      obtain ⟨f1, o1, e1, -, ⟨z0, z1, z2, z3, z4, z5⟩, -, hE, hwf⟩ := no_at (HN.out.blw HK.out.below) hd
      have HAO := Hid.mk e1
      rw [e1] at h1
      have p0 := blk_cell h1 0
      have p2 := blk_cell h1 2
      simp at p0 p2
      have hj0 : (0 : Int) ≤ (j : Int) := by omega
      by_cases hlt : j < (Nd d).sn
      · have hjs : (j : Int) < ((Nd d).sn : Int) := by omega
        have hpre := slotS_le (m := m) (Nd := Nd) (rec := intoS m Nd f) (pre := pre) (E := (Nd d).E) (G := goneF G d) (j + 1) (Nd d).sn hlt
        have hpl := hpre.length_le
        have hpl0 := (slotS_pre (m := m) (Nd := Nd) (rec := intoS m Nd f) (pre := pre) (E := (Nd d).E) (G := goneF G d) j).length_le
        have hlen : (ll : Int) < 10000 := by
          have h1 := HX.out
          have h2 := HLL.out
          rw [List.length_append] at h2
          omega
        have HTOT : Hid (X.length + (slotS m Nd (intoS m Nd f) pre (Nd d).E (goneF G d) (j + 1)).1.length < 10000) := Hid.mk (by have := HX.out; omega)
        obtain ⟨eb, eo, hso, -, hec⟩ := hE (by omega)
        obtain ⟨y0, y1⟩ := hec j hlt
        have hnm := HNM.out d j hd hlt
        have hiw := hwf.2.2.2 j hlt
        have hjj : IntKind.i64.wrap ((j : Int) + 1) = (j : Int) + 1 := by have := hwf.2.1; rw [IntKind.wrap_i64]; omega
        have hnx : slotS m Nd (intoS m Nd f) pre (Nd d).E (goneF G d) (j + 1) = stepS m Nd (intoS m Nd f) pre ((Nd d).E j) (slotS m Nd (intoS m Nd f) pre (Nd d).E (goneF G d) j) := rfl
        rw [hso] at z5
        have HNX := Hid.mk hnx
        generalize hr : slotS m Nd (intoS m Nd f) pre (Nd d).E (goneF G d) j = r at *
        generalize he : (Nd d).E j = e at *
        obtain ⟨ei, en⟩ := e
        dsimp only at y0 y1 hnm hiw
        clear hnx hpl hpl0 hpre hec hE hwf
        clear h2
        go_upto_region 5 with fail
        obtain ⟨X1, hX1⟩ : ∃ X1, X1 = wr.alloc (.cells #[.int .i64 ei, .string en] 41) := ⟨_, rfl⟩
        have hB1 : Below wr.heap.size wr X1 := by rw [hX1]; exact (Below.refl _ wr).alloc (Nat.le_refl _) _
        have gX1 : X1.heap[wr.heap.size]? = some (.cells #[.int .i64 ei, .string en] 41 (0, 0)) := by rw [hX1]; exact blk_new wr _
        have HR1 := Hid.mk (HK.out.blw hB1)
        have hbl : wr.heap.size < X1.heap.size := by rw [hX1]; simp
        have hpl1 := HK.out.lt
        have hgl1 := HK.out.gone.lt
        have hbase := HK.out.below.size
        rw [← hX1]
        have v0 := blk_cell gX1 0
        have v1 := blk_cell gX1 1
        simp at v0 v1
        have h1' := (hB1.block _ (lt_of_block h1)).trans h1
        generalize hbx : wr.heap.size = bx at *
        have HBX := Hid.mk (And.intro gX1 (And.intro hbl (And.intro hpl1 (And.intro hgl1 hbase))))
        clear hX1 hB1 gX1 y0 y1 z0 z1 z2 z3 z4 z5 p0 p2 h1 HK hbl hpl1 hgl1 hbase hbx
        by_cases h0 : ei = 0
        · subst h0
          have hst : stepS m Nd (intoS m Nd f) pre ⟨0, en⟩ r = r := by unfold stepS; rw [if_pos (.inl rfl)]
          rw [hst] at HNX
          clear hst
          go_wp2
          go_roundw
          case rel => exact ⟨j + 1, hlt, by push_cast; rfl, Hid.mk (by rw [HNX.out]; exact HR1.out)⟩
          case measure => simp [Go.RowKit.intOf]; omega
        · have h0b : (ei == 0) = false := by simpa using h0
          have hw1 : IntKind.i64.wrap ((pre.size : Int) + 1) = (pre.size : Int) + 1 := by rw [IntKind.wrap_i64]; omega
          have hw2 : IntKind.i64.wrap ((pre.size : Int) + 1 + (en.size : Int)) = (pre.size : Int) + 1 + (en.size : Int) := by rw [IntKind.wrap_i64]; omega
          by_cases h5 : 500 < pre.size + 1 + en.size
          · have hgt : (500 : Int) < (pre.size : Int) + 1 + (en.size : Int) := by omega
            have hst : stepS m Nd (intoS m Nd f) pre ⟨ei, en⟩ r = r := by unfold stepS; rw [if_pos (.inr h5)]
            rw [hst] at HNX
            clear hst
            go_wp2
            go_roundw
            case rel => exact ⟨j + 1, hlt, by push_cast; rfl, Hid.mk (by rw [HNX.out]; exact HR1.out)⟩
            case measure => simp [Go.RowKit.intOf]; omega
          · have hgt : ¬ (500 : Int) < (pre.size : Int) + 1 + (en.size : Int) := by omega
            have hst : stepS m Nd (intoS m Nd f) pre ⟨ei, en⟩ r = (match firstN m Nd ei with
              | some t => if (Nd t).kind = 2 ∧ r.2 t = false then (r.1 ++ catB pre en :: (intoS m Nd f r.2 t (catB pre en)).1, (intoS m Nd f r.2 t (catB pre en)).2) else (r.1 ++ [catB pre en], r.2)
              | none => (r.1 ++ [catB pre en], r.2)) := by unfold stepS; exact if_neg (fun h => h.elim h0 h5)
            rw [hst] at HNX
            rw [HNX.out] at HTOT
            have HCS := Hid.mk (catB_size pre en)
            have H50 := Hid.mk h5
            clear hst h5
            go_upto_region 7 with fail
            have hcat : pre ++ { data := #[47] } ++ en = catB pre en := rfl
            rw [hcat]
            generalize catB pre en = s at *
            clear hcat
            obtain ⟨wa, wa', wc, wc', W', g1, hr', hpb, hsz, hkp, hRI⟩ := rp_push HR1.out s (by have := HLL.out; omega)
            rw [HAO.out, ← HLL.out] at g1
            rw [← HLL.out] at hr'
            have n0 := blk_cell g1 0
            have n2 := blk_cell g1 2
            simp at n0 n2
            have hob := hpb.trans g1
            have k2 := blk_cell hob 2
            simp at k2
            have l2 : W'.frozen? ⟨pb, 2, none⟩ = false := blk_free hob 2
            rw [← HLL.out] at hkp hRI
            have HR := Hid.mk hr'
            have hbe := hkp bx HBX.out.2.1 (by have := HBX.out.2.2.1; omega) (by have := HBX.out.2.2.2.1; omega) (.inr ⟨_, HBX.out.1⟩)
            have HRI := Hid.mk hRI
            have HBE := Hid.mk (hbe.trans HBX.out.1)
            clear hr' hpb hsz hkp hRI hob g1 hbe h1' HR1
            go_upto_region 8 with (first
              | (with_reducible refine wpList_it ?_; refine wpList_knownS (by kernel_rfl) _ _ (exec_oneB (x := .tmp 71) (p := s) rfl (by kernel_rfl)) ?_)
              | (with_reducible refine wpList_it ?_; refine wpLB_append (by kernel_rfl) (.tmp 70) (.tmp 72) 31 rfl _ _ _ W' (by kernel_rfl) (by kernel_rfl) HR.out ?_; simp only [Act.put]))
            generalize W'.setCell ⟨pb, 2, none⟩ (.slice wa' (ll + 1) wc') = Y2 at *
            obtain ⟨v9, g9, -, -, -⟩ := HRI.out.row
            rw [HAO.out] at g9
            have t0 := blk_cell g9 0
            have t1 := blk_cell g9 1
            have t2 := blk_cell HBE.out 0
            simp at t0 t1 t2
            have HAT : Hid (∀ n, Calls Try.prog 20 #[.slice (some ⟨f1, o1, none⟩) m cc, .int .i64 ei] (Y2.drewN n) fun e w' => e = .returned (.int .i64 (atS m Nd ei)) ∧ w' = Y2.drewN n) := Hid.mk (fun n => by
              rw [← HAO.out]
              exact at_any _ ao m cc Nd ei (HN.out.blw (HRI.out.below.trans ((blw_drewN (Below.refl Y2.heap.size Y2) n).mono HRI.out.below.size))) HMM.out)
            clear g9 n0 n2 k2 l2 HR v0 v1
            go_quiet (first | (go_at_call 20; exact Calls.quiet_of_same (HAT.out _)))
            obtain ⟨Z, hZ⟩ : ∃ Z, Z = Y2.drewN nq := ⟨_, rfl⟩
            have HZ : Hid (RpI w0 ao m cc pb gb gc r.2 (X ++ r.1 ++ [s]) Z) := Hid.mk (by rw [hZ]; exact HRI.out.blw (blw_drewN (Below.refl _ _) _))
            rw [← hZ]
            clear hZ HAT t0 t1 t2 HBE HRI
            obtain ⟨v9, g9, -, -, -⟩ := HZ.out.row
            rw [HAO.out] at g9
            have t0 := blk_cell g9 0
            have t1 := blk_cell g9 1
            simp at t0 t1
            clear g9
            cases hq : firstN m Nd ei with
            | none =>
              have hat : atS m Nd ei = -1 := by unfold atS; rw [hq]
              rw [hat]
              rw [hq] at HNX
              clear hq hat
              go_wp2
              go_roundw
              case rel => exact ⟨j + 1, hlt, by push_cast; rfl, Hid.mk (by rw [HNX.out, ← List.append_assoc]; exact HZ.out)⟩
              case measure => simp [Go.RowKit.intOf]; omega
            | some t =>
              have hat : atS m Nd ei = (t : Int) := by unfold atS; rw [hq]
              have htm := (firstN_some hq).1
              have HT := Hid.mk htm
              rw [hat]
              rw [hq] at HNX HTOT
              dsimp only at HNX HTOT
              have htn : (0 : Int) ≤ (t : Int) := by omega
              have htm2 : (t : Int) < (m : Int) := by omega
              obtain ⟨f2, o2, e2, -, ⟨-, z1, -, -, -, -⟩, -, -, -⟩ := no_at (HN.out.blw HZ.out.below) htm
              rw [HAO.out] at e2
              cases e2
              obtain ⟨cg, -⟩ := HZ.out.gone.cell htm
              clear hq hat htm
              by_cases hk : (Nd t).kind = 2
              · have hkb : ((Nd t).kind == 2) = true := by simpa using hk
                cases hg : r.2 t with
                | true =>
                  rw [hg] at cg
                  rw [if_neg (fun h => by rw [hg] at h; cases h.2)] at HNX
                  clear hg HTOT
                  go_wp2
                  go_roundw
                  case rel => exact ⟨j + 1, hlt, by push_cast; rfl, Hid.mk (by rw [HNX.out, ← List.append_assoc]; exact HZ.out)⟩
                  case measure => simp [Go.RowKit.intOf]; omega
                | false =>
                  rw [hg] at cg
                  rw [if_pos ⟨hk, hg⟩] at HNX HTOT
                  have HCI := Hid.mk (IH.out t s r.2 (X ++ r.1 ++ [s]) Z HT.out (by have := HCS.out; have := H50.out; omega) (by have := HCS.out; have := HF.out; omega) HZ.out (by have h1 := HTOT.out; simp at h1 ⊢; omega))
                  clear hg
                  go_wp2_with (go_at_call 26; refine HCI.out.mono ?_; rintro e w6 ⟨⟨v6, rfl⟩, h6⟩)
                  have H6 := Hid.mk h6
                  go_roundw
                  case rel => exact ⟨j + 1, hlt, by push_cast; rfl, Hid.mk (by rw [HNX.out]; simpa using H6.out)⟩
                  case measure => simp [Go.RowKit.intOf]; omega
              · have hkb : ((Nd t).kind == 2) = false := by simpa using hk
                rw [if_neg (fun h => hk h.1)] at HNX
                clear HTOT
                go_wp2
                go_roundw
                case rel => exact ⟨j + 1, hlt, by push_cast; rfl, Hid.mk (by rw [HNX.out, ← List.append_assoc]; exact HZ.out)⟩
                case measure => simp [Go.RowKit.intOf]; omega
      · obtain rfl : j = (Nd d).sn := by omega
        clear h1 h2
        go_wp2
        refine bodyPost_end (results_none rfl _ _ _) rfl ?_
        exact ⟨⟨_, rfl⟩, HK.out⟩
end Go.Proofs.Ytbahbhaoimabdaa
