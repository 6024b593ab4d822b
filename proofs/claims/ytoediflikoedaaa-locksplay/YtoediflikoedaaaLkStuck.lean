/-
  Stuck.
-/
import Derived.Test.YtoediflikoedaaaLkSkStart
namespace Go.Proofs.Ytoediflikoedaaa
open Go Go.Proofs Go.RowKit Go.Shelf Go.Maps
open Go.ChangeMaps (setBlock)
attribute [local go_sem] Oper.semAt_some
theorem exec_oneI {ev : Operand → Value} {oi : Oper} {x : Operand} {i : Int} {W : World} (ho : oi.op = .buildSlice 39 1 #[(0, x)]) (hx : ev x = .int .i64 i) : (execOp ev oi).run Try.prog W = .ok (.value (.slice (some ⟨W.heap.size, 0, none⟩) 1 1)) (W.alloc (.cells #[.int .i64 i] 3)) := by
  obtain ⟨i0, hi, hz0, hz1, hz2⟩ := info3p
  unfold execOp
  rw [ho]
  simp only [hx, List.map_toArray, List.map_cons, List.map_nil]
  simp [Instr.buildSlice, run_underlying Try.underlying39, zeroValue, typeInfo, hi, hz0, hz1, newRow, Value.cells, Instr.fill, sizeOf]
  rw [show Array.range 1 = #[0] from by decide]
  simp
def lenV (u : Value) : Nat := match u with
  | .slice _ k _ => k
  | _ => 0
def StkTo (w : World) (A0 : Ta) (v : Value) (w' : World) : Prop := ∃ L A, Steps A0 A ∧ A.Done ∧ A.Ok ∧ KeyL (intF lkV A.waits) L ∧ w'.ownsRow w.heap.size 3 1 v L.length (Iy L) ∧ Below w.heap.size w w'
def S13 (bx hbk : Nat) (y : Int) (r : Value) (W : World) : Prop := W.cell? ⟨bx, 0, none⟩ = some (.int .i64 y) ∧ (Instr.lookup 71 (.map (some hbk)) (.int .i64 y) false).run Try.prog W = .ok r W ∧ True
section
variable {w0 : World} {t hbk cb : Nat} {A0 : Ta} {N M0 : Nat} {wr : World} {D : Td} {f3 : Int → Option (Value × List Int)} {fv : Value} {l3 : List Int} {g : Nat}
/-- A round of the innermost loop: all that it leans on. -/
theorem sk_in {ao : Option Addr} {c : Nat} {G : List Lk} {i : Nat} {lk : Lk} (HI : SkI w0 t hbk cb A0 N M0 (fun k => (Value.slice ao G.length c).ownBlock = some k) (g + 1) wr D f3 fv l3) (hM : M0 ≤ 1000000) (hG : SlOk wr (.slice ao G.length c) G) (hl : G[i]? = some lk) (hlw : lk.wf) (hw : D.waits lk.th = none) (x : Int) (hx : (Lit.int .i64 x).wf = true) :
    ∃ gg off, ao = some ⟨gg, off, none⟩ ∧ gg < wr.heap.size ∧ (wr.cell? ⟨gg, off + i * 3, none⟩ = some (.int .i64 lk.th) ∧ wr.cell? ⟨gg, off + i * 3 + 1, none⟩ = some (.int .i64 lk.tg) ∧ wr.cell? ⟨gg, off + i * 3 + 2, none⟩ = some (.bool lk.al)) ∧ S13 wr.heap.size hbk lk.th (rowV f3 lk.th) (wr.alloc (lkO lk)).drew ∧
    ∃ v7 W7 o7 fv' W9, Hid (S13 wr.heap.size hbk lk.th (rowV f3 lk.th) ((wr.alloc (lkO lk)).drew.alloc (.cells #[.int .i64 x] 3))) ∧ Hid ((Builtin.append_ #[39, 39] 39 #[rowV f3 lk.th, .slice (some ⟨(wr.alloc (lkO lk)).drew.heap.size, 0, none⟩) 1 1]).run Try.prog ((wr.alloc (lkO lk)).drew.alloc (.cells #[.int .i64 x] 3)) = .ok v7 W7) ∧ Hid (S13 wr.heap.size hbk lk.th (rowV f3 lk.th) W7) ∧ Hid ((Instr.mapUpdate 71 (.map (some hbk)) (.int .i64 lk.th) v7).run Try.prog W7 = .ok () (setBlock W7 hbk o7)) ∧ (setBlock W7 hbk o7).cell? ⟨wr.heap.size, 0, none⟩ = some (.int .i64 lk.th) ∧ Hid ((Builtin.append_ #[39, 39] 39 #[fv, .slice (some ⟨(setBlock W7 hbk o7).heap.size, 0, none⟩) 1 1]).run Try.prog ((setBlock W7 hbk o7).alloc (.cells #[.int .i64 lk.th] 3)) = .ok fv' W9) ∧ (∃ ao c, fv' = .slice ao (l3.length + 1) c) ∧
      Hid (SkI w0 t hbk cb A0 N M0 (fun k => (Value.slice ao G.length c).ownBlock = some k) g W9 D (updC f3 lk.th (some (v7, rowL f3 lk.th ++ [x]))) fv' (l3 ++ [lk.th]) ∧ SlOk W9 (.slice ao G.length c) G) := by
  obtain ⟨gg, hgg, hR⟩ : ∃ gg, (Value.slice ao G.length c).ownBlock = some gg ∧ RwAt wr gg (.slice ao G.length c) G := by
    rcases hG with ⟨_, e⟩ | q
    · rw [e] at hl; cases hl
    · exact q
  obtain ⟨off, cap, e1, e2, e3, e4⟩ := hR.cells
  cases e1
  have hv := HI.var (lkO lk)
  have hs1 : (wr.alloc (lkO lk)).drew.heap.size = wr.heap.size + 1 := by simp
  have hXl : ∀ k, ((Value.slice (some ⟨gg, off, none⟩) G.length c).ownBlock = some k ∨ k = wr.heap.size) → k < (wr.alloc (lkO lk)).drew.heap.size := fun k hk => by
    rcases hk with q | q
    · have : gg = k := Option.some.inj q
      omega
    · omega
  obtain ⟨n1, v7, W7, n2, n3, n4, n5, n6, n7, n8, o7, n9, fv', W9, n10, n11, n12⟩ := hv.next hM hXl lk.th x hlw.1 hx hw
  have x1 : (wr.alloc (lkO lk)).drew.heap[wr.heap.size]? = some (lkO lk) := blk_new wr _
  have s13 : ∀ W : World, W.heap[wr.heap.size]? = some (lkO lk) → W.heap[hbk]? = (wr.alloc (lkO lk)).drew.heap[hbk]? → S13 wr.heap.size hbk lk.th (rowV f3 lk.th) W := fun W q1 q2 => ⟨by rw [blk_cell q1]; rfl, n1 W q2, trivial⟩
  have x7 : W7.heap[wr.heap.size]? = some (lkO lk) := (n7 _ (by omega) (.inr (.inr rfl))).trans x1
  refine ⟨gg, off, rfl, e2, e4 i lk hl, s13 _ x1 rfl, v7, W7, o7, fv', W9, Hid.mk (s13 _ ((Below.heap_alloc _ _ _ (by omega)).trans x1) (Below.heap_alloc _ _ _ n4)), Hid.mk n2, Hid.mk (s13 _ x7 n3), Hid.mk n9, ?_, Hid.mk n10, n11, Hid.mk ⟨n12.out.1.less (fun k q => .inl q), ?_⟩⟩
  · have : (setBlock W7 hbk o7).heap[wr.heap.size]? = some (lkO lk) := (heap_set_other (fun e => n6 (.inr e.symm))).trans x7
    rw [blk_cell this]
    rfl
  · refine hG.kept (fun k hk => ?_)
    have hkg : gg = k := Option.some.inj hk
    rw [n12.out.2 k (by omega) (.inr (.inl hk))]
    exact Below.heap_alloc _ _ _ (by omega)
end
section
variable {F : Nat → Prop} {w : World} {t : Nat} {D : Td}
set_option maxRecDepth 100000 in
set_option maxHeartbeats 16000000 in
theorem stuck0 {N : Nat} (hST : Calls Try.prog 38 #[ptV t] w fun e w1 => ∃ t1, e = .returned (ptV t1) ∧ Hid (Calls Try.prog 39 #[ptV t1] w1 fun e w2 => ∃ hbk, e = .returned (.map (some hbk)) ∧ Hid (Calls Try.prog 40 #[ptV t1, .map (some hbk)] w2 fun e w3 => ∃ ao m c cb, e = .returned (.slice ao m c) ∧ Hid (∃ D1 f l, l.length = m ∧ SkI w t1 hbk cb D.abs.waited (2 * N) 100000 (fun _ => False) 0 w3 D1 f (.slice ao m c) l ∧ Cv D1.abs f l 0 [] 0 [])))) (hN : N ≤ 300) : Calls Try.prog 23 #[ptV t] w fun e w' => ∃ v, e = .returned v ∧ Hid (StkTo w D.abs.waited v w') := by
  have HST := Hid.mk hST
  obtain ⟨A0, hA0⟩ : ∃ A0, A0 = D.abs.waited := ⟨_, rfl⟩
  rw [← hA0] at HST ⊢
  obtain ⟨N2, hN2⟩ : ∃ N2, N2 = 2 * N := ⟨_, rfl⟩
  rw [← hN2] at HST
  have HN : Hid (N2 ≤ 400000) := Hid.mk (by omega)
  clear hST hN hA0 hN2
  go_enter Try.func23, Try.ntmps23
  go_wp2_with (first
    | (go_at_call 38; refine HST.out.mono ?_; rintro e w1 ⟨t1, rfl, H1⟩; clear HST)
    | (go_at_call 39; refine H1.out.mono ?_; rintro e w2 ⟨hbk, rfl, H2⟩; clear H1)
    | (go_at_call 40; refine H2.out.mono ?_; rintro e w3 ⟨ao0, m0, c0, cb, rfl, H3⟩; clear H2)
    | go_in)
  go_loopw [5] (fun u wr => ∃ m : Nat, (∃ ao c, u = .slice ao m c) ∧ Hid (∃ D1 f l, l.length = m ∧ SkI w t1 hbk cb A0 N2 100000 (fun _ => False) 0 wr D1 f u l ∧ Cv D1.abs f l 0 [] 0 [])) (fun u wr => lenV u + nwOf wr cb)
  case atStart => exact ⟨m0, ⟨ao0, c0, rfl⟩, H3⟩
  case round =>
    obtain ⟨m, ⟨ao, c, rfl⟩, HR⟩ := hrel
    obtain ⟨D1, f, l, hlm, HI, HC⟩ := HR.out
    clear HR H3
    cases m with
    | zero =>
      obtain rfl : l = [] := List.eq_nil_of_length_eq_zero hlm
      obtain ⟨d2, hK⟩ := sk_end HI (by omega)
      have HK := Hid.mk hK
      have HF : Hid (Steps A0 D1.abs ∧ D1.abs.Done ∧ D1.abs.Ok) := Hid.mk ⟨HI.steps, cv_done HC, HI.ok⟩
      clear HI HC hK hlm
      go_wp2_with (first
        | (go_at_call 41; refine HK.out.mono ?_; rintro e w4 ⟨rfl, H4⟩; clear HK)
        | (go_at_call 35; refine H4.out.mono ?_; rintro e w5 ⟨v, L, rfl, H5⟩; clear H4)
        | go_in)
      go_ret
      exact ⟨_, rfl, Hid.mk ⟨L, D1.abs, HF.out.1, HF.out.2.1, HF.out.2.2, H5.out⟩⟩
    | succ k =>
      obtain ⟨l1, p, rfl⟩ : ∃ l1 p, l = l1 ++ [p] := by
        rcases List.eq_nil_or_concat l with q | ⟨l1, p, q⟩
        · rw [q] at hlm; cases hlm
        · exact ⟨l1, p, by simpa using q⟩
      obtain rfl : l1.length = k := by simpa using hlm
      obtain ⟨gb, cap, eu, hgl, hcap, hcell, HI1⟩ := HI.pop
      cases eu
      obtain ⟨hpw, hpn⟩ := HI.wfl p (by simp)
      have HC1 := cv_pop HC
      obtain ⟨lk7, ⟨ao7, c7, ev7⟩, hrow⟩ := HI1.row p hpw
      rw [ev7] at lk7
      have HQ : Hid (nwOf wr cb = D1.nw) := Hid.mk HI.nw
      have HM : Hid (∃ D2 f2 l2, l2.length = l1.length ∧ SkI w t1 hbk cb A0 N2 100000 (fun _ => False) 0 wr D2 f2 (.slice (some ⟨gb, 0, none⟩) l1.length c) l2 ∧ Cv D2.abs f2 l2 p ((rowL f p).drop 0) 0 [] ∧ rowV f2 p = rowV f p ∧ rowL f2 p = rowL f p ∧ D2.waits p = none ∧ l2.length + D2.nw ≤ l1.length + D1.nw) := Hid.mk ⟨D1, f, l1, rfl, HI1, HC1, rfl, rfl, hpn, Nat.le_refl _⟩
      have HWF : Hid ((∀ z ∈ rowL f p, (Lit.int .i64 z).wf = true) ∧ (Lit.int .i64 p).wf = true ∧ l1.length + 1 ≤ c ∧ rowV f p = .slice ao7 (rowL f p).length c7) := Hid.mk ⟨HI.wfr p, hpw, hcap, ev7⟩
      obtain ⟨L0, hL0⟩ : ∃ L0, L0 = rowL f p := ⟨_, rfl⟩
      obtain ⟨v0, hv0⟩ : ∃ v0, v0 = rowV f p := ⟨_, rfl⟩
      rw [← hL0, ← hv0] at HM HWF
      rw [← hL0] at lk7
      have hlb : (l1.length : Int) + 1 ≤ 9223372036854775807 := by
        obtain ⟨_, _, _, M, _, _, _, _, _, _, _, q, _, r⟩ := HI.mem
        simp at q
        omega
      have u1 : wrap64 (l1.length : Int) = (l1.length : Int) := by unfold wrap64; omega
      clear hlb
      have g1 : (l1.length : Int) ≤ (c : Int) := by omega
      have g2 : (l1.length : Int) < ((l1.length + 1 : Nat) : Int) := by omega
      have g3 : (0 : Int) < ((l1.length + 1 : Nat) : Int) := by omega
      have e1 : (⟨gb, 0, none⟩ : Addr).add (l1.length * 1) = ⟨gb, l1.length, none⟩ := by rw [add_at]; simp
      have HL : Hid (L0.length ≤ 100000) := Hid.mk (by obtain ⟨_, _, _, M, _, _, _, _, _, _, _, _, q, r⟩ := HI.mem; have := q p; rw [hL0]; omega)
      clear HI HI1 HC HC1 hrow hL0 hv0 ev7 hlm hpn hcap
      go_wp2
      go_loopw [5, 36] (fun u iv wr' => ∃ j m : Nat, iv = .int .i64 j ∧ (∃ ao c, u = .slice ao m c) ∧ Hid (j ≤ L0.length ∧ ∃ D2 f2 l2, l2.length = m ∧ SkI w t1 hbk cb A0 N2 100000 (fun _ => False) 0 wr' D2 f2 u l2 ∧ Cv D2.abs f2 l2 p (L0.drop j) 0 [] ∧ rowV f2 p = v0 ∧ rowL f2 p = L0 ∧ D2.waits p = none ∧ l2.length + D2.nw ≤ l1.length + D1.nw)) (fun _ iv _ => L0.length - (Go.RowKit.intOf iv).toNat)
      case atStart => exact ⟨0, l1.length, rfl, ⟨_, _, rfl⟩, Hid.mk ⟨Nat.zero_le _, HM.out⟩⟩
      case round =>
        obtain ⟨j, m, rfl, ⟨ao, c2, rfl⟩, HR⟩ := hrel
        obtain ⟨hj, D2, f2, l2, hl2, HI, HC, hfv, hfl, hpn, hpot⟩ := HR.out
        clear HR HM
        by_cases hlt : (j : Int) < (L0.length : Int)
        · obtain ⟨x, hx⟩ : ∃ x, L0[j]? = some x := ⟨L0[j]'(by omega), List.getElem?_eq_getElem (by omega)⟩
          have hdj : L0.drop j = x :: L0.drop (j + 1) := by
            have := (List.getElem?_eq_some_iff.1 hx).2
            rw [← this]
            exact List.drop_eq_getElem_cons (by omega)
          have hxw := HWF.out.1 x (List.mem_of_getElem? hx)
          obtain ⟨gb7, cap7, er, hgl7, hc7⟩ := (HI.row p HWF.out.2.1).2.2 j x (by rw [hfl]; exact hx)
          rw [hfv, hfl, HWF.out.2.2.2] at er
          cases er
          have u2 : IntKind.i64.wrap ((j : Int) + 1) = ((j + 1 : Nat) : Int) := by rw [IntKind.wrap_i64]; have := HL.out; omega
          have HLT : Hid (j < L0.length) := Hid.mk (by omega)
          have HREL := Hid.mk (HI.rel HN.out p x HWF.out.2.1 hxw hpn)
          rw [hdj] at HC
          have HCV := Hid.mk (cv_rel HI.ok (show D2.abs.waits p = none from hpn) HC)
          obtain ⟨G, hG⟩ : ∃ G, G = D2.abs.relL p x := ⟨_, rfl⟩
          obtain ⟨r1, r2, r3, r4⟩ := rel_holds HI.ok x (show D2.abs.waits p = none from hpn)
          rw [← hG] at r2 r3 r4 HCV HREL
          obtain ⟨A2, hA2⟩ : ∃ A2, A2 = D2.abs.rel p x := ⟨_, rfl⟩
          rw [← hA2] at HCV HREL r2
          have HP : Hid (l2.length + D2.nw ≤ l1.length + D1.nw ∧ (Lit.int .i64 x).wf = true ∧ p ∉ G.map Lk.th ∧ (∀ l ∈ G, l.wf) ∧ (∀ th, th ∈ G.map Lk.th → A2.waits th = none) ∧ A2.waits p = none ∧ rowV f2 p = v0 ∧ rowL f2 p = L0) := Hid.mk ⟨hpot, hxw, r3, fun l hl => (r4 l hl).1, fun th hth => by rw [r2, if_pos hth], by rw [r2, if_neg r3]; exact hpn, hfv, hfl⟩
          clear HI HC hfv hfl hpn hpot hj r1 r2 r3 r4 hG hA2 hdj hx hxw
          go_wp2_with (first
            | (go_at_call 14; refine HREL.out.mono ?_; rintro e w4 ⟨ao4, c4, rfl, H4⟩; clear HREL)
            | go_in)
          obtain ⟨hSl, D', hD', hnw', HI4⟩ := H4.out
          have HD : Hid (D'.abs = A2 ∧ D'.nw + G.length = D2.nw) := Hid.mk ⟨hD', hnw'⟩
          have H0 : Hid (SlOk w4 (.slice ao4 G.length c4) G ∧ ∃ f3 l3, l3.length = m ∧ SkI w t1 hbk cb A0 N2 100000 (fun k => (Value.slice ao4 G.length c4).ownBlock = some k) (G.length - 0) w4 D' f3 (.slice ao m c2) l3 ∧ Cv A2 f3 l3 p (L0.drop (j + 1)) x ((G.drop 0).map Lk.th) ∧ rowV f3 p = v0 ∧ rowL f3 p = L0 ∧ l3.length + D'.nw + (G.length - 0) ≤ l1.length + D1.nw) := Hid.mk ⟨hSl, f2, l2, hl2, HI4, HCV.out, HP.out.2.2.2.2.2.2.1, HP.out.2.2.2.2.2.2.2, by have := HP.out.1; omega⟩
          have HGL : Hid (G.length ≤ 100000) := Hid.mk (by obtain ⟨_, _, _, M, _, _, _, _, _, _, _, _, _, r⟩ := HI4.mem; omega)
          clear H4 hSl hD' hnw' HI4 HCV hl2
          go_loopw [5, 45] (fun u iv wr' => ∃ i m : Nat, iv = .int .i64 i ∧ (∃ ao c, u = .slice ao m c) ∧ Hid (i ≤ G.length ∧ SlOk wr' (.slice ao4 G.length c4) G ∧ ∃ f3 l3, l3.length = m ∧ SkI w t1 hbk cb A0 N2 100000 (fun k => (Value.slice ao4 G.length c4).ownBlock = some k) (G.length - i) wr' D' f3 u l3 ∧ Cv A2 f3 l3 p (L0.drop (j + 1)) x ((G.drop i).map Lk.th) ∧ rowV f3 p = v0 ∧ rowL f3 p = L0 ∧ l3.length + D'.nw + (G.length - i) ≤ l1.length + D1.nw)) (fun _ iv _ => G.length - (Go.RowKit.intOf iv).toNat)
          case atStart => exact ⟨0, m, rfl, ⟨_, _, rfl⟩, Hid.mk ⟨Nat.zero_le _, H0.out⟩⟩
          case round =>
            obtain ⟨i, m3, rfl, ⟨ao3, c3, rfl⟩, HR⟩ := hrel
            obtain ⟨hi, hSl, f3, l3, hl3, HI, HC, hfv, hfl, hpot⟩ := HR.out
            clear HR H0
            by_cases hlt3 : (i : Int) < (G.length : Int)
            · obtain ⟨lk, hlk⟩ : ∃ lk, G[i]? = some lk := ⟨G[i]'(by omega), List.getElem?_eq_getElem (by omega)⟩
              have hdi : G.drop i = lk :: G.drop (i + 1) := by
                have := (List.getElem?_eq_some_iff.1 hlk).2
                rw [← this]
                exact List.drop_eq_getElem_cons (by omega)
              have hmem : lk ∈ G := List.mem_of_getElem? hlk
              have hth : lk.th ∈ G.map Lk.th := List.mem_map.2 ⟨lk, hmem, rfl⟩
              have hne : lk.th ≠ p := fun e => HP.out.2.2.1 (e ▸ hth)
              have hge : G.length - i = (G.length - (i + 1)) + 1 := by omega
              rw [hge] at HI
              have hwn : D'.waits lk.th = none := by
                have := HP.out.2.2.2.2.1 lk.th hth
                rw [← HD.out.1] at this
                exact this
              obtain ⟨gg, off, rfl, hggl, ⟨k1, k2, k3⟩, hH13, v7, W7, o7, fv', W9, HS6, HAP, HS7, HMU, k7, HAP2, ⟨ao9, c9, rfl⟩, HN9⟩ := sk_in HI (by omega) hSl hlk (HP.out.2.2.2.1 lk hmem) hwn x HP.out.2.1
              have HF : Hid (i + 1 ≤ G.length ∧ SlOk W9 (.slice (some ⟨gg, off, none⟩) G.length c4) G ∧ ∃ f3 l4, l4.length = l3.length + 1 ∧ SkI w t1 hbk cb A0 N2 100000 (fun k => (Value.slice (some ⟨gg, off, none⟩) G.length c4).ownBlock = some k) (G.length - (i + 1)) W9 D' f3 (.slice ao9 (l3.length + 1) c9) l4 ∧ Cv A2 f3 l4 p (L0.drop (j + 1)) x ((G.drop (i + 1)).map Lk.th) ∧ rowV f3 p = v0 ∧ rowL f3 p = L0 ∧ l4.length + D'.nw + (G.length - (i + 1)) ≤ l1.length + D1.nw) := Hid.mk ⟨by omega, HN9.out.2, _, l3 ++ [lk.th], by simp, HN9.out.1, by
                rw [hdi] at HC
                exact cv_next HC, by unfold rowV; rw [updC_other _ _ (fun e => hne e.symm)]; exact hfv, by rw [rowL_upd, if_neg (fun e => hne e.symm)]; exact hfl, by simp; omega⟩
              obtain ⟨wA, hwA⟩ : ∃ wA, wA = wr.alloc (lkO lk) := ⟨_, rfl⟩
              rw [← hwA] at hH13 HS6 HAP
              unfold lkO at hwA
              have u3 : IntKind.i64.wrap ((i : Int) + 1) = ((i + 1 : Nat) : Int) := by rw [IntKind.wrap_i64]; have := HGL.out; omega
              have e3 : (⟨gg, off, none⟩ : Addr).add (i * 3) = ⟨gg, off + i * 3, none⟩ := by rw [add_at]
              have HLT3 : Hid (i < G.length) := Hid.mk (by omega)
              clear HI HC hfv hfl hpot hSl hlk hdi hmem hth hne hge hwn HN9 hi
              rw [hl3] at *
              go_wp2
              rw [← hwA]
              clear hwA
              refine wp_region_but 10 (S13 wr.heap.size hbk lk.th (rowV f3 lk.th)) (by kernel_rfl) hH13 (fun hH => ?_)
              refine takeL 0 49 (.map (some hbk)) rfl (by kernel_rfl) (by kernel_rfl) (by kernel_rfl) (by kernel_rfl) (by kernel_rfl) (fun _ _ _ h => h) (by kernel_rfl) (fun w hw => by kernel_rfl) hH ?_
              simp only [List.setIfInBounds_toArray, List.set_cons_zero, List.set_cons_succ]
              refine takeL 1 50 (.pointer (some ⟨wr.heap.size, 0, none⟩)) rfl (by kernel_rfl) (by kernel_rfl) (by kernel_rfl) (by kernel_rfl) (by kernel_rfl) (fun _ _ _ h => h) (by kernel_rfl) (fun w hw => by go_simp) hH ?_
              simp only [List.setIfInBounds_toArray, List.set_cons_zero, List.set_cons_succ]
              refine takeL 2 51 (.int .i64 lk.th) rfl (by kernel_rfl) (by kernel_rfl) (by kernel_rfl) (by kernel_rfl) (by kernel_rfl) (fun _ _ _ h => h) (by kernel_rfl) (fun w hw => by (try dsimp only at hw); obtain ⟨hw1, hw2, hw3⟩ := hw; go_simp) hH ?_
              simp only [List.setIfInBounds_toArray, List.set_cons_zero, List.set_cons_succ]
              refine takeL 3 52 (.map (some hbk)) rfl (by kernel_rfl) (by kernel_rfl) (by kernel_rfl) (by kernel_rfl) (by kernel_rfl) (fun _ _ _ h => h) (by kernel_rfl) (fun w hw => by kernel_rfl) hH ?_
              simp only [List.setIfInBounds_toArray, List.set_cons_zero, List.set_cons_succ]
              refine takeL 4 53 (.pointer (some ⟨wr.heap.size, 0, none⟩)) rfl (by kernel_rfl) (by kernel_rfl) (by kernel_rfl) (by kernel_rfl) (by kernel_rfl) (fun _ _ _ h => h) (by kernel_rfl) (fun w hw => by go_simp) hH ?_
              simp only [List.setIfInBounds_toArray, List.set_cons_zero, List.set_cons_succ]
              refine takeL 5 54 (.int .i64 lk.th) rfl (by kernel_rfl) (by kernel_rfl) (by kernel_rfl) (by kernel_rfl) (by kernel_rfl) (fun _ _ _ h => h) (by kernel_rfl) (fun w hw => by (try dsimp only at hw); obtain ⟨hw1, hw2, hw3⟩ := hw; go_simp) hH ?_
              simp only [List.setIfInBounds_toArray, List.set_cons_zero, List.set_cons_succ]
              refine takeL 6 55 (rowV f3 lk.th) rfl (by kernel_rfl) (by kernel_rfl) (by kernel_rfl) (by kernel_rfl) (by kernel_rfl) (fun _ _ _ h => h) (by kernel_rfl) (fun w hw => by (try dsimp only at hw); obtain ⟨hw1, hw2, hw3⟩ := hw; go_simp) hH ?_
              simp only [List.setIfInBounds_toArray, List.set_cons_zero, List.set_cons_succ]
              refine takeL 7 56 (.int .i64 x) rfl (by kernel_rfl) (by kernel_rfl) (by kernel_rfl) (by kernel_rfl) (by kernel_rfl) (fun _ _ _ h => h) (by kernel_rfl) (fun w hw => by kernel_rfl) hH ?_
              simp only [List.setIfInBounds_toArray, List.set_cons_zero, List.set_cons_succ]
              refine stepL_run 8 57 (.slice (some ⟨wA.drew.heap.size, 0, none⟩) 1 1) (wA.drew.alloc (.cells #[.int .i64 x] 3)) rfl (by kernel_rfl) (by kernel_rfl) (by kernel_rfl) (exec_oneI (x := .tmp 56) (by kernel_rfl) (by kernel_rfl)) HS6.out ?_
              simp only [List.setIfInBounds_toArray, List.set_cons_zero, List.set_cons_succ]
              refine stepL_run 9 58 v7 W7 rfl (by kernel_rfl) (by kernel_rfl) (by kernel_rfl) (exec_append (s := .tmp 55) (x := .tmp 57) (by kernel_rfl) (by kernel_rfl) (by kernel_rfl) HAP.out) HS7.out ?_
              simp only [List.setIfInBounds_toArray, List.set_cons_zero, List.set_cons_succ]
              refine lastL (setBlock W7 hbk o7) rfl (by kernel_rfl) (by kernel_rfl) (by kernel_rfl) (exec_mapUpdate (m := .tmp 49) (k := .tmp 51) (v := .tmp 58) (by kernel_rfl) (by kernel_rfl) (by kernel_rfl) (by kernel_rfl) HMU.out) (by kernel_rfl) ?_
              go_wp2_with (first
                | (at_builtin; refine wpList_append_known rfl _ _ _ rfl _ _ _ _ rfl rfl HAP2.out ?_; simp only [Act.put, List.setIfInBounds_toArray, List.set_cons_zero, List.set_cons_succ])
                | go_in)
              go_roundw
              case rel => exact ⟨i + 1, _, rfl, ⟨_, _, rfl⟩, HF⟩
              case measure => (have := HLT3.out; simp [Go.RowKit.intOf]; omega)
            · obtain rfl : i = G.length := by omega
              have HF : Hid (j + 1 ≤ L0.length ∧ ∃ D2 f2 l2, l2.length = m3 ∧ SkI w t1 hbk cb A0 N2 100000 (fun _ => False) 0 wr D2 f2 (.slice ao3 m3 c3) l2 ∧ Cv D2.abs f2 l2 p (L0.drop (j + 1)) 0 [] ∧ rowV f2 p = v0 ∧ rowL f2 p = L0 ∧ D2.waits p = none ∧ l2.length + D2.nw ≤ l1.length + D1.nw) := Hid.mk ⟨HLT.out, D', f3, l3, hl3, by
                have := HI.free
                rwa [Nat.sub_self] at this, by
                rw [List.drop_eq_nil_of_le (Nat.le_refl _)] at HC
                rw [HD.out.1]
                exact cv_drop HC, hfv, hfl, by
                have := HP.out.2.2.2.2.2.1
                rw [← HD.out.1] at this
                exact this, by omega⟩
              clear HI HC hfv hfl hpot hSl hl3 hi
              go_wp2
              go_roundw
              case rel => exact ⟨.slice ao3 m3 c3, .int .i64 x, u10, .int .i64 ((j + 1 : Nat) : Int), ⟨j + 1, rfl, m3, ⟨_, _, rfl⟩, HF⟩, rfl, rfl, rfl, by simp⟩
              case measure => (have := HLT.out; simp [Go.RowKit.intOf]; omega)
        · obtain rfl : j = L0.length := by omega
          have HF : Hid (∃ D1' f l, l.length = m ∧ SkI w t1 hbk cb A0 N2 100000 (fun _ => False) 0 wr D1' f (.slice ao m c2) l ∧ Cv D1'.abs f l 0 [] 0 []) := Hid.mk ⟨D2, f2, l2, hl2, HI, by
            intro th tg hh
            rcases HC th tg hh with ⟨_, q⟩ | q
            · rw [List.drop_eq_nil_of_le (Nat.le_refl _)] at q
              cases q
            · exact .inr q⟩
          have HMS : Hid (m + nwOf wr cb < l1.length + 1 + D1.nw) := Hid.mk (by rw [HI.nw]; omega)
          clear HI HC hfv hfl hpn hpot hl2 hj
          go_wp2
          go_roundw
          case rel => exact ⟨m, ⟨_, _, rfl⟩, HF⟩
          case measure => (have h1 := HMS.out; have h2 := HQ.out; simp only [lenV]; omega)
theorem stuck_any (h : TbAt F w t D) (hM : D.Made) (hok : D.abs.Ok) {N : Nat} (hf : Fit N D) (hN : N ≤ 300) : Calls Try.prog 23 #[ptV t] w fun e w' => ∃ v, e = .returned v ∧ Hid (StkTo w D.abs.waited v w') := stuck0 (sk_start h hM hok hf hN) hN
end
end Go.Proofs.Ytoediflikoedaaa
