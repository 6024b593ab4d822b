/-
  WalkNumbers: its walk.
-/
import Derived.Test.YtbahbhaoimabdaaWkAlive
import Derived.Test.YtbahbhaoimabdaaWkSpoil
namespace Go.Proofs.Ytbahbhaoimabdaa
open Go Go.Proofs Go.RowKit Go.Shelf

theorem exec_stU {ev : Operand → Value} {oi : Oper} {p x : Operand} {a : Addr} {n : Int} {v : Value} {W : World} (ho : oi.op = .store 5 p x) (hp : ev p = .pointer (some a)) (hx : ev x = .int .u8 n) (hc : W.cell? a = some v) (hf : W.frozen? a = false) : (execOp ev oi).run Try.prog W = .ok .skip (W.setCell a (.int .u8 n)) := by
  refine exec_store ho hp hx ?_
  simp [go_sem, hc, hf]
theorem exec_ldB {ev : Operand → Value} {oi : Oper} {x : Operand} {a : Addr} {v : Value} {W : World} (ho : oi.op = .load 5 x) (hx : ev x = .pointer (some a)) (hc : W.cell? a = some v) : (execOp ev oi).run Try.prog W = .ok (.value v) W := by
  unfold execOp
  rw [ho]
  simp only [hx]
  go_simp
def xorB (x : Int) : Int := IntKind.u8.wrap ((BitVec.ofInt 8 x ^^^ BitVec.ofInt 8 255).toNat : Int)
theorem exec_xor {ev : Operand → Value} {oi : Oper} {x y : Operand} {u : TypeId} {n : Int} {W : World} (ho : oi.op = .binOp .xor 5 x y u) (hx : ev x = .int .u8 n) (hy : ev y = .int .u8 255) : (execOp ev oi).run Try.prog W = .ok (.value (.int .u8 (xorB n))) W := by
  unfold execOp
  rw [ho]
  simp only [hx, hy]
  rfl
set_option maxRecDepth 100000 in
set_option maxHeartbeats 4000000 in
theorem walknumbers_law (w : World) (ao : Option Addr) (m cc : Nat) (N : Nat → NoV) (hN : NoAt w ao m N) (hm : m ≤ 8796093022208) (hb : ∀ i, i < m → (N i).sn ≤ 8796093022208 ∧ (N i).bn ≤ 8796093022208) : Calls Try.prog 4 #[.slice ao m cc] w fun e w' => e = .returned (.bool true) ∧ Below w.heap.size w w' := by
  have HAL := Hid.mk (alive_any w)
  obtain ⟨b1, hb1⟩ : ∃ b1, b1 = bigB m N := ⟨_, rfl⟩
  have HB1 : Hid (∀ W, Below w.heap.size w W → Calls Try.prog 10 #[.slice ao m cc] W fun e w' => e = .returned (.bool b1) ∧ Below W.heap.size W w') := Hid.mk (fun W hB => by rw [hb1]; exact big_any W ao m cc N (hN.blw hB) (by omega))
  cases b1 with
  | true =>
    clear hN hm hb hb1
    go_enter Try.func4, Try.ntmps4
    go_wp2_with (first | (go_at_call 9; with_reducible refine HAL.out.mono ?_; rintro e W ⟨rfl, hB⟩; have BB := Hid.mk hB; clear hB HAL) | (go_at_call 10; with_reducible refine (HB1.out _ BB.out).mono ?_; rintro e W ⟨rfl, hB⟩; replace BB := Hid.mk (BB.out.trans (hB.mono BB.out.size)); clear hB HB1))
    go_ret
    exact ⟨rfl, BB.out⟩
  | false =>
    have hs := Sml.of_big hb hb1.symm
    have HRN : Hid (∀ W, Below w.heap.size w W → Calls Try.prog 16 #[.slice ao m cc] W fun e w' => ∃ na k nc K, e = .returned (.slice na k nc) ∧ Below W.heap.size W w' ∧ AnsAt W.heap.size k (.slice na k nc) K w' ∧ IsRen m N k K) := Hid.mk (fun W hB => renumber_ans W ao m cc N (hN.blw hB) hs)
    have HRR : Hid (∀ W, Below w.heap.size w W → Calls Try.prog 17 #[.slice ao m cc] W fun e w' => ∃ na k nc K, e = .returned (.slice na k nc) ∧ Below W.heap.size W w' ∧ AnsAt W.heap.size k (.slice na k nc) K w' ∧ IsRen m N k K) := Hid.mk (fun W hB => rrenumber_ans W ao m cc N (hN.blw hB) hs)
    have HS := Hid.mk hs
    clear hN hm hb hb1 hs
    go_enter Try.func4, Try.ntmps4
    go_upto_region 7 with (first
      | (go_at_call 9; with_reducible refine HAL.out.mono ?_; rintro e W3 ⟨rfl, hB⟩; have BB := Hid.mk hB; clear hB HAL)
      | (go_at_call 10; with_reducible refine (HB1.out _ BB.out).mono ?_; rintro e W4 ⟨rfl, hB⟩; replace BB := Hid.mk (BB.out.trans (hB.mono BB.out.size)); clear hB HB1)
      | (go_at_call 16; with_reducible refine (HRN.out _ BB.out).mono ?_; rintro e W5 ⟨na, k, nc, K, rfl, hB, hA, hR⟩; have HA := Hid.mk hA; have HR := Hid.mk hR; have HW4 : Hid (w.heap.size ≤ W4.heap.size) := Hid.mk BB.out.size; replace BB := Hid.mk (BB.out.trans (hB.mono BB.out.size)); clear hB hA hR)
      | (go_at_call 17; with_reducible refine (HRR.out _ BB.out).mono ?_; rintro e W6 ⟨ma, k2, mc, K2, rfl, hB, hA, hR⟩; have HA2 := Hid.mk hA; have HR2 := Hid.mk hR; have HB6 := Hid.mk hB; replace BB := Hid.mk (BB.out.trans (hB.mono BB.out.size)); clear hB hA hR))
    obtain ⟨rfl, hsv⟩ := IsRen.same (fun i _ => SameV.refl (N i)) HR.out HR2.out
    have hsk := IsRen.sml HR.out HS.out
    have hkl := hsk.le
    have HN1 : Hid (∀ W, Below W6.heap.size W6 W → AnsAt W4.heap.size k (.slice na k nc) K W) := Hid.mk (fun W hB => (HA.out.blw HB6.out).blw hB)
    have HSm1 : Hid (∀ W, Below W6.heap.size W6 W → Calls Try.prog 18 #[.slice na k nc, .slice ma k mc] W fun e w' => e = .returned (.bool true) ∧ Below W.heap.size W w') := Hid.mk (fun W hB => by
      have h1 := wsame_any W na k nc ma k mc K K2 (HN1.out W hB).NoAt (HA2.out.blw hB).NoAt (by omega)
      rw [sameL_same hsv] at h1
      exact h1)
    have HSm2 : Hid (∀ W, Below W6.heap.size W6 W → Calls Try.prog 19 #[.slice na k nc, .slice ma k mc] W fun e w' => e = .returned (.bool true) ∧ Below W.heap.size W w') := Hid.mk (fun W hB => by
      have h1 := rsame_any W na k nc ma k mc K K2 (HN1.out W hB).NoAt (HA2.out.blw hB).NoAt (by omega)
      rw [sameL_same hsv] at h1
      exact h1)
    have HRA : Hid (∀ W, Below W6.heap.size W6 W → Calls Try.prog 16 #[.slice na k nc] W fun e w' => ∃ xa xc, e = .returned (.slice xa k xc) ∧ Below W.heap.size W w' ∧ ∃ X, NoAt w' xa k X ∧ ∀ i, i < k → SameV (X i) (K i)) := Hid.mk (fun W hB => by
      refine (renumber_ans W na k nc K (HN1.out W hB).NoAt hsk).mono ?_
      rintro e w' ⟨xa, x, xc, X, rfl, h1, h2, h3⟩
      obtain ⟨rfl, h4⟩ := IsRen.again HR.out h3
      exact ⟨xa, xc, rfl, h1, X, h2.NoAt, fun i hi => (h4 i hi).symm⟩)
    have HSA : Hid (∀ W xa xc, Below W6.heap.size W6 W → (∃ X, NoAt W xa k X ∧ ∀ i, i < k → SameV (X i) (K i)) → Calls Try.prog 18 #[.slice xa k xc, .slice na k nc] W fun e w' => e = .returned (.bool true) ∧ Below W.heap.size W w') := Hid.mk (fun W xa xc hB hX => by
      obtain ⟨X, hX, hv⟩ := hX
      have h1 := wsame_any W xa k xc na k nc X K hX (HN1.out W hB).NoAt (by omega)
      rw [sameL_same hv] at h1
      exact h1)
    have HSV := Hid.mk hsv
    have HSK := Hid.mk hsk
    have BK := Hid.mk (Below.refl W6.heap.size W6)
    clear hsv hsk
    go_upto_region 8 with (first
      | (go_at_call 18; with_reducible refine (HSm1.out _ BK.out).mono ?_; rintro e W7 ⟨rfl, hB⟩; replace BK := Hid.mk (BK.out.trans (hB.mono BK.out.size)); clear hB HSm1)
      | (go_at_call 19; with_reducible refine (HSm2.out _ BK.out).mono ?_; rintro e W8 ⟨rfl, hB⟩; replace BK := Hid.mk (BK.out.trans (hB.mono BK.out.size)); clear hB HSm2)
      | (go_at_call 16; with_reducible refine (HRA.out _ BK.out).mono ?_; rintro e W9 ⟨xa, xc, rfl, hB, hX⟩; have HX := Hid.mk hX; replace BK := Hid.mk (BK.out.trans (hB.mono BK.out.size)); clear hB hX HRA)
      | (go_at_call 18; with_reducible refine (HSA.out _ xa xc BK.out HX.out).mono ?_; rintro e W10 ⟨rfl, hB⟩; replace BK := Hid.mk (BK.out.trans (hB.mono BK.out.size)); clear hB HSA HX))
    have HJ0 : Hid (SpJ W4.heap.size W5.heap.size k (.slice na k nc) K W10 W10) := Hid.mk (AnsAt.spoil (HN1.out W10 BK.out) HA.out (Nat.le_refl _))
    have HM2 : Hid (AnsAt W5.heap.size k (.slice ma k mc) K2 W10) := Hid.mk (HA2.out.blw BK.out)
    have HSZ : Hid (W5.heap.size ≤ W10.heap.size) := Hid.mk (Nat.le_trans HB6.out.size BK.out.size)
    replace BB := Hid.mk (BB.out.trans (BK.out.mono BB.out.size))
    clear HA HA2 HB6 HN1 BK HR HRR
    go_wp2
    go_loopw [8] (fun iv wr => ∃ i : Nat, i ≤ k ∧ iv = .int .i64 (i : Int) ∧ Hid (SpJ W4.heap.size W5.heap.size k (.slice na k nc) K W10 wr)) (fun iv _ => ((k : Int) - Go.RowKit.intOf iv).toNat)
    case atStart => exact ⟨0, by omega, rfl, HJ0⟩
    case round =>
      obtain ⟨i, hi, rfl, HJ⟩ := hrel
      clear HJ0
      by_cases hlt : i < k
      · obtain ⟨ng, e, -, -, -⟩ := HJ.out.node hlt
        subst e
        obtain ⟨so, hso⟩ : ∃ x, x = (K i).so := ⟨_, rfl⟩
        obtain ⟨sn, hsn⟩ : ∃ x, x = (K i).sn := ⟨_, rfl⟩
        obtain ⟨sc, hsc⟩ : ∃ x, x = (K i).sc := ⟨_, rfl⟩
        obtain ⟨bo, hbo⟩ : ∃ x, x = (K i).bo := ⟨_, rfl⟩
        obtain ⟨bn, hbn⟩ : ∃ x, x = (K i).bn := ⟨_, rfl⟩
        obtain ⟨bc, hbc⟩ : ∃ x, x = (K i).bc := ⟨_, rfl⟩
        have HFS : Hid (∀ W, SpJ W4.heap.size W5.heap.size k (.slice (some ⟨ng, 0, none⟩) k nc) K W10 W → W.cell? ⟨ng, i * 6 + 5, none⟩ = some (.slice so sn sc)) := Hid.mk (fun W h => by
          obtain ⟨g, e, -, h1, -⟩ := h.node hlt
          cases e
          rw [h1, hso, hsn, hsc]; rfl)
        have HFB : Hid (∀ W, SpJ W4.heap.size W5.heap.size k (.slice (some ⟨ng, 0, none⟩) k nc) K W10 W → W.cell? ⟨ng, i * 6 + 4, none⟩ = some (.slice bo bn bc) ∧ ∃ cs, W.heap[ng]? = some (.cells cs 39 (0, 0))) := Hid.mk (fun W h => by
          obtain ⟨g, e, h1, -, h2⟩ := h.node hlt
          cases e
          exact ⟨by rw [h1, hbo, hbn, hbc]; rfl, h2⟩)
        have HXS : Hid (∀ W j, SpJ W4.heap.size W5.heap.size k (.slice (some ⟨ng, 0, none⟩) k nc) K W10 W → j < sn → ∃ g, so = some ⟨g, 0, none⟩ ∧ (slV (K i)).ownBlock = some g ∧ (∃ u, W.cell? ⟨g, j * 2, none⟩ = some u) ∧ W.frozen? ⟨g, j * 2, none⟩ = false ∧ (∃ u, W.cell? ⟨g, j * 2 + 1, none⟩ = some u) ∧ W.frozen? ⟨g, j * 2 + 1, none⟩ = false) := Hid.mk (fun W j h hj => by rw [hso]; rw [hsn] at hj; exact h.slot hlt hj)
        have HXP : Hid (∀ W j, SpJ W4.heap.size W5.heap.size k (.slice (some ⟨ng, 0, none⟩) k nc) K W10 W → j < bn → ∃ g, bo = some ⟨g, 0, none⟩ ∧ W.cell? ⟨g, j * 2 + 1, none⟩ = some (daV ((K i).P j)) ∧ ∃ cs, W.heap[g]? = some (.cells cs 44 (0, 0))) := Hid.mk (fun W j h hj => by rw [hbo]; rw [hbn] at hj; exact h.part hlt hj)
        have hsl : sn ≤ 500 := by rw [hsn]; exact HSK.out.sn i hlt
        have hbl : bn ≤ 500 := by rw [hbn]; exact HSK.out.bn i hlt
        have HBN := Hid.mk hbn
        have HLT := Hid.mk hlt
        clear hso hsn hsc hbo hbn hbc
        have hi0 : (0 : Int) ≤ (i : Int) := by omega
        have hik : (i : Int) < (k : Int) := by omega
        have hii : IntKind.i64.wrap ((i : Int) + 1) = (i : Int) + 1 := by rw [IntKind.wrap_i64]; omega
        go_wp2
        go_loopw [9] (fun jv w5 => ∃ j : Nat, j ≤ sn ∧ jv = .int .i64 (j : Int) ∧ Hid (SpJ W4.heap.size W5.heap.size k (.slice (some ⟨ng, 0, none⟩) k nc) K W10 w5)) (fun jv _ => ((sn : Int) - Go.RowKit.intOf jv).toNat)
        case atStart => exact ⟨0, by omega, rfl, HJ⟩
        case round =>
          obtain ⟨j, hj, rfl, HJ2⟩ := hrel
          clear HJ
          have c5 := HFS.out _ HJ2.out
          have hj0 : (0 : Int) ≤ (j : Int) := by omega
          by_cases hjs : j < sn
          · obtain ⟨g, rfl, hog, ⟨u0, c0⟩, f0, ⟨u1, c1⟩, f1⟩ := HXS.out _ j HJ2.out hjs
            have hjn : (j : Int) < (sn : Int) := by omega
            have hjj : IntKind.i64.wrap ((j : Int) + 1) = (j : Int) + 1 := by rw [IntKind.wrap_i64]; omega
            have HOG := Hid.mk hog
            clear hog
            go_wp2
            refine ⟨⟨j + 1, hjs, by push_cast; rfl, Hid.mk ((HJ2.out.setS HLT.out HOG.out (j * 2) (.int .i64 0)).setS HLT.out HOG.out (j * 2 + 1) (.string ⟨#[]⟩))⟩, by simp [Go.RowKit.intOf]; omega⟩
          · obtain rfl : j = sn := by omega
            clear HXS
            go_wp2
            go_loopw [10] (fun jv w6 => ∃ j : Nat, j ≤ bn ∧ jv = .int .i64 (j : Int) ∧ Hid (SpJ W4.heap.size W5.heap.size k (.slice (some ⟨ng, 0, none⟩) k nc) K W10 w6)) (fun jv _ => ((bn : Int) - Go.RowKit.intOf jv).toNat)
            case atStart => exact ⟨0, by omega, rfl, HJ2⟩
            case round =>
              clear c5
              obtain ⟨q, hq, rfl, HJ3⟩ := hrel
              clear HJ2
              have c4 := (HFB.out _ HJ3.out).1
              have hq0 : (0 : Int) ≤ (q : Int) := by omega
              by_cases hqs : q < bn
              · obtain ⟨gb, rfl, -, -⟩ := HXP.out _ q HJ3.out hqs
                obtain ⟨da, hda⟩ : ∃ x, x = ((K i).P q).ao := ⟨_, rfl⟩
                obtain ⟨dn, hdn⟩ : ∃ x, x = ((K i).P q).m := ⟨_, rfl⟩
                obtain ⟨dc, hdc⟩ : ∃ x, x = ((K i).P q).cc := ⟨_, rfl⟩
                have HQ : Hid (q < (K i).bn) := Hid.mk (by rw [← HBN.out]; exact hqs)
                have HFD : Hid (∀ W, SpJ W4.heap.size W5.heap.size k (.slice (some ⟨ng, 0, none⟩) k nc) K W10 W → W.cell? ⟨gb, q * 2 + 1, none⟩ = some (.slice da dn dc) ∧ ∃ cs, W.heap[gb]? = some (.cells cs 44 (0, 0))) := Hid.mk (fun W h => by
                  obtain ⟨g, e, h1, h2⟩ := HXP.out W q h hqs
                  cases e
                  exact ⟨by rw [h1, hda, hdn, hdc]; rfl, h2⟩)
                have HXB : Hid (∀ W t, SpJ W4.heap.size W5.heap.size k (.slice (some ⟨ng, 0, none⟩) k nc) K W10 W → t < dn → ∃ g x, da = some ⟨g, 0, none⟩ ∧ (daV ((K i).P q)).ownBlock = some g ∧ W.cell? ⟨g, t, none⟩ = some (.int .u8 x) ∧ W.frozen? ⟨g, t, none⟩ = false ∧ ∃ cs, W.heap[g]? = some (.cells cs 5 (0, 0))) := Hid.mk (fun W t h ht => by rw [hda]; rw [hdn] at ht; exact h.byte HLT.out HQ.out ht)
                have hdl : dn ≤ 2000 := by rw [hdn]; exact HSK.out.dat i HLT.out q HQ.out
                have cp := (HFD.out _ HJ3.out).1
                clear hda hdn hdc
                have hqn : (q : Int) < (bn : Int) := by omega
                have hqq : IntKind.i64.wrap ((q : Int) + 1) = (q : Int) + 1 := by rw [IntKind.wrap_i64]; omega
                go_wp2
                go_loopw [11] (fun tv w7 => ∃ t : Nat, t ≤ dn ∧ tv = .int .i64 (t : Int) ∧ Hid (SpJ W4.heap.size W5.heap.size k (.slice (some ⟨ng, 0, none⟩) k nc) K W10 w7)) (fun tv _ => ((dn : Int) - Go.RowKit.intOf tv).toNat)
                case atStart => exact ⟨0, by omega, rfl, HJ3⟩
                case round =>
                  clear c4 cp
                  obtain ⟨t, ht, rfl, HJ4⟩ := hrel
                  clear HJ3
                  obtain ⟨c4, cs4, hk4⟩ := HFB.out _ HJ4.out
                  obtain ⟨cp, cs5, hk5⟩ := HFD.out _ HJ4.out
                  have ht0 : (0 : Int) ≤ (t : Int) := by omega
                  by_cases hts : t < dn
                  · obtain ⟨gd, x, rfl, hog, cx, fx, cs6, hk6⟩ := HXB.out _ t HJ4.out hts
                    have htn : (t : Int) < (dn : Int) := by omega
                    have htt : IntKind.i64.wrap ((t : Int) + 1) = (t : Int) + 1 := by rw [IntKind.wrap_i64]; omega
                    have HSS : Hid (∀ A : World, (∀ b, b ≠ gd → A.heap[b]? = wr.heap[b]?) → A.cell? ⟨ng, i * 6 + 4, none⟩ = some (.slice (some ⟨gb, 0, none⟩) bn bc) ∧ A.cell? ⟨gb, q * 2 + 1, none⟩ = some (.slice (some ⟨gd, 0, none⟩) dn dc)) := Hid.mk (fun A hA => ⟨(World.cell?_of_block (w := wr) (hA ng (ty_ne hk4 hk6 (by decide)))).trans c4, (World.cell?_of_block (w := wr) (hA gb (ty_ne hk5 hk6 (by decide)))).trans cp⟩)
                    have HKG : Hid (wr.drew.cell? ⟨gd, t, none⟩ = some (.int .u8 x) ∧ wr.drew.frozen? ⟨gd, t, none⟩ = false) := Hid.mk ⟨cx, fx⟩
                    have HOG := Hid.mk hog
                    clear hog hk4 hk5 hk6
                    go_upto_region 21 with fail
                    clear cx fx
                    refine wp_region_held_drew (S := fun (A : World) => A.cell? ⟨ng, i * 6 + 4, none⟩ = some (.slice (some ⟨gb, 0, none⟩) bn bc) ∧ A.cell? ⟨gb, q * 2 + 1, none⟩ = some (.slice (some ⟨gd, 0, none⟩) dn dc)) (by kernel_rfl) (HSS.out _ (fun _ _ => rfl)) (fun hH => ?_)
                    change wpAnyH Try.prog Region.Mode.any _ _ _ 25 _ _ _
                    refine takeH 0 87 (.slice (some ⟨ng, 0, none⟩) k nc) rfl (by kernel_rfl) (by kernel_rfl) (by kernel_rfl) (by kernel_rfl) (fun _ _ _ h => h) (by kernel_rfl) (fun w hw => by (try dsimp only at hw); go_simp) hH ?_
                    simp only [List.setIfInBounds_toArray, List.set_cons_zero, List.set_cons_succ]
                    refine takeH 1 88 (.int .i64 (i : Nat)) rfl (by kernel_rfl) (by kernel_rfl) (by kernel_rfl) (by kernel_rfl) (fun _ _ _ h => h) (by kernel_rfl) (fun w hw => by (try dsimp only at hw); go_simp) hH ?_
                    simp only [List.setIfInBounds_toArray, List.set_cons_zero, List.set_cons_succ]
                    refine takeH 2 89 (.pointer (some ⟨ng, i * 6, none⟩)) rfl (by kernel_rfl) (by kernel_rfl) (by kernel_rfl) (by kernel_rfl) (fun _ _ _ h => h) (by kernel_rfl) (fun w hw => by (try dsimp only at hw); go_simp) hH ?_
                    simp only [List.setIfInBounds_toArray, List.set_cons_zero, List.set_cons_succ]
                    refine takeH 3 90 (.pointer (some ⟨ng, i * 6 + 4, none⟩)) rfl (by kernel_rfl) (by kernel_rfl) (by kernel_rfl) (by kernel_rfl) (fun _ _ _ h => h) (by kernel_rfl) (fun w hw => by (try dsimp only at hw); go_simp) hH ?_
                    simp only [List.setIfInBounds_toArray, List.set_cons_zero, List.set_cons_succ]
                    refine takeH 4 91 (.slice (some ⟨gb, 0, none⟩) bn bc) rfl (by kernel_rfl) (by kernel_rfl) (by kernel_rfl) (by kernel_rfl) (fun _ _ _ h => h) (by kernel_rfl) (fun w hw => by (try dsimp only at hw); go_simp) hH ?_
                    simp only [List.setIfInBounds_toArray, List.set_cons_zero, List.set_cons_succ]
                    refine takeH 5 92 (.int .i64 (q : Nat)) rfl (by kernel_rfl) (by kernel_rfl) (by kernel_rfl) (by kernel_rfl) (fun _ _ _ h => h) (by kernel_rfl) (fun w hw => by (try dsimp only at hw); go_simp) hH ?_
                    simp only [List.setIfInBounds_toArray, List.set_cons_zero, List.set_cons_succ]
                    refine takeH 6 93 (.pointer (some ⟨gb, q * 2, none⟩)) rfl (by kernel_rfl) (by kernel_rfl) (by kernel_rfl) (by kernel_rfl) (fun _ _ _ h => h) (by kernel_rfl) (fun w hw => by (try dsimp only at hw); go_simp) hH ?_
                    simp only [List.setIfInBounds_toArray, List.set_cons_zero, List.set_cons_succ]
                    refine takeH 7 94 (.pointer (some ⟨gb, q * 2 + 1, none⟩)) rfl (by kernel_rfl) (by kernel_rfl) (by kernel_rfl) (by kernel_rfl) (fun _ _ _ h => h) (by kernel_rfl) (fun w hw => by (try dsimp only at hw); go_simp) hH ?_
                    simp only [List.setIfInBounds_toArray, List.set_cons_zero, List.set_cons_succ]
                    refine takeH 8 95 (.slice (some ⟨gd, 0, none⟩) dn dc) rfl (by kernel_rfl) (by kernel_rfl) (by kernel_rfl) (by kernel_rfl) (fun _ _ _ h => h) (by kernel_rfl) (fun w hw => by (try dsimp only at hw); go_simp) hH ?_
                    simp only [List.setIfInBounds_toArray, List.set_cons_zero, List.set_cons_succ]
                    refine takeH 9 96 (.int .i64 (t : Nat)) rfl (by kernel_rfl) (by kernel_rfl) (by kernel_rfl) (by kernel_rfl) (fun _ _ _ h => h) (by kernel_rfl) (fun w hw => by (try dsimp only at hw); go_simp) hH ?_
                    simp only [List.setIfInBounds_toArray, List.set_cons_zero, List.set_cons_succ]
                    refine takeH 10 97 (.slice (some ⟨ng, 0, none⟩) k nc) rfl (by kernel_rfl) (by kernel_rfl) (by kernel_rfl) (by kernel_rfl) (fun _ _ _ h => h) (by kernel_rfl) (fun w hw => by (try dsimp only at hw); go_simp) hH ?_
                    simp only [List.setIfInBounds_toArray, List.set_cons_zero, List.set_cons_succ]
                    refine takeH 11 98 (.int .i64 (i : Nat)) rfl (by kernel_rfl) (by kernel_rfl) (by kernel_rfl) (by kernel_rfl) (fun _ _ _ h => h) (by kernel_rfl) (fun w hw => by (try dsimp only at hw); go_simp) hH ?_
                    simp only [List.setIfInBounds_toArray, List.set_cons_zero, List.set_cons_succ]
                    refine takeH 12 99 (.pointer (some ⟨ng, i * 6, none⟩)) rfl (by kernel_rfl) (by kernel_rfl) (by kernel_rfl) (by kernel_rfl) (fun _ _ _ h => h) (by kernel_rfl) (fun w hw => by (try dsimp only at hw); go_simp) hH ?_
                    simp only [List.setIfInBounds_toArray, List.set_cons_zero, List.set_cons_succ]
                    refine takeH 13 100 (.pointer (some ⟨ng, i * 6 + 4, none⟩)) rfl (by kernel_rfl) (by kernel_rfl) (by kernel_rfl) (by kernel_rfl) (fun _ _ _ h => h) (by kernel_rfl) (fun w hw => by (try dsimp only at hw); go_simp) hH ?_
                    simp only [List.setIfInBounds_toArray, List.set_cons_zero, List.set_cons_succ]
                    refine takeH 14 101 (.slice (some ⟨gb, 0, none⟩) bn bc) rfl (by kernel_rfl) (by kernel_rfl) (by kernel_rfl) (by kernel_rfl) (fun _ _ _ h => h) (by kernel_rfl) (fun w hw => by (try dsimp only at hw); go_simp) hH ?_
                    simp only [List.setIfInBounds_toArray, List.set_cons_zero, List.set_cons_succ]
                    refine takeH 15 102 (.int .i64 (q : Nat)) rfl (by kernel_rfl) (by kernel_rfl) (by kernel_rfl) (by kernel_rfl) (fun _ _ _ h => h) (by kernel_rfl) (fun w hw => by (try dsimp only at hw); go_simp) hH ?_
                    simp only [List.setIfInBounds_toArray, List.set_cons_zero, List.set_cons_succ]
                    refine takeH 16 103 (.pointer (some ⟨gb, q * 2, none⟩)) rfl (by kernel_rfl) (by kernel_rfl) (by kernel_rfl) (by kernel_rfl) (fun _ _ _ h => h) (by kernel_rfl) (fun w hw => by (try dsimp only at hw); go_simp) hH ?_
                    simp only [List.setIfInBounds_toArray, List.set_cons_zero, List.set_cons_succ]
                    refine takeH 17 104 (.pointer (some ⟨gb, q * 2 + 1, none⟩)) rfl (by kernel_rfl) (by kernel_rfl) (by kernel_rfl) (by kernel_rfl) (fun _ _ _ h => h) (by kernel_rfl) (fun w hw => by (try dsimp only at hw); go_simp) hH ?_
                    simp only [List.setIfInBounds_toArray, List.set_cons_zero, List.set_cons_succ]
                    refine takeH 18 105 (.slice (some ⟨gd, 0, none⟩) dn dc) rfl (by kernel_rfl) (by kernel_rfl) (by kernel_rfl) (by kernel_rfl) (fun _ _ _ h => h) (by kernel_rfl) (fun w hw => by (try dsimp only at hw); go_simp) hH ?_
                    simp only [List.setIfInBounds_toArray, List.set_cons_zero, List.set_cons_succ]
                    refine takeH 19 106 (.int .i64 (t : Nat)) rfl (by kernel_rfl) (by kernel_rfl) (by kernel_rfl) (by kernel_rfl) (fun _ _ _ h => h) (by kernel_rfl) (fun w hw => by (try dsimp only at hw); go_simp) hH ?_
                    simp only [List.setIfInBounds_toArray, List.set_cons_zero, List.set_cons_succ]
                    refine takeH 20 107 (.pointer (some ⟨gd, t, none⟩)) rfl (by kernel_rfl) (by kernel_rfl) (by kernel_rfl) (by kernel_rfl) (fun _ _ _ h => h) (by kernel_rfl) (fun w hw => by (try dsimp only at hw); go_simp) hH ?_
                    simp only [List.setIfInBounds_toArray, List.set_cons_zero, List.set_cons_succ]
                    refine stepH 21 108 (.int .u8 x) rfl (by kernel_rfl) (by kernel_rfl) (by kernel_rfl) (exec_ldB (x := .tmp 107) rfl (by kernel_rfl) HKG.out.1) hH ?_
                    simp only [List.setIfInBounds_toArray, List.set_cons_zero, List.set_cons_succ]
                    refine stepH 22 109 (.int .u8 (xorB x)) rfl (by kernel_rfl) (by kernel_rfl) (by kernel_rfl) (exec_xor (x := .tmp 108) (y := .const (.int .u8 255)) rfl (by kernel_rfl) (by kernel_rfl)) hH ?_
                    simp only [List.setIfInBounds_toArray, List.set_cons_zero, List.set_cons_succ]
                    refine stepH 23 110 (.pointer (some ⟨gd, t, none⟩)) rfl (by kernel_rfl) (by kernel_rfl) (by kernel_rfl) (by go_simp) hH ?_
                    simp only [List.setIfInBounds_toArray, List.set_cons_zero, List.set_cons_succ]
                    refine stepH_one 24 (by kernel_rfl) ?_
                    refine opH_store 24 (wr.drew.setCell ⟨gd, t, none⟩ (.int .u8 (xorB x))) rfl (by kernel_rfl) (by kernel_rfl) (exec_stU (p := .tmp 110) (x := .tmp 109) rfl (by kernel_rfl) (by kernel_rfl) HKG.out.1 HKG.out.2) (HSS.out _ (fun b hb => Below.heap_setCell _ _ _ _ hb)) ?_
                    refine wpAnyH_done (by kernel_rfl) ?_ _
                    go_wp2
                    refine ⟨⟨t + 1, hts, by push_cast; rfl, Hid.mk (HJ4.out.drew.setD HLT.out HQ.out HOG.out t (xorB x))⟩, by simp [Go.RowKit.intOf]; omega⟩
                  · obtain rfl : t = dn := by omega
                    go_wp2
                    refine ⟨⟨q + 1, hqs, by push_cast; rfl, HJ4⟩, by simp [Go.RowKit.intOf]; omega⟩
              · obtain rfl : q = bn := by omega
                go_wp2
                refine ⟨⟨i + 1, HLT.out, by push_cast; rfl, HJ3⟩, by simp [Go.RowKit.intOf]; omega⟩
      · obtain rfl : i = k := by omega
        have HM3 := Hid.mk (HJ.out.beside HM2.out)
        have BZ : Hid (Below w.heap.size w wr) := Hid.mk (HJ.out.below BB.out HW4.out)
        have HRZ := Hid.mk (HRN.out wr BZ.out)
        have HLS : Hid (∀ W xa xc, Below wr.heap.size wr W → (∃ X, NoAt W xa i X ∧ ∀ j, j < i → SameV (X j) (K2 j)) → Calls Try.prog 19 #[.slice xa i xc, .slice ma i mc] W fun e w' => e = .returned (.bool true) ∧ Below W.heap.size W w') := Hid.mk (fun W xa xc hB hX => by
          obtain ⟨X, hX, hv⟩ := hX
          have h1 := rsame_any W xa i xc ma i mc X K2 hX (HM3.out.blw hB).NoAt (by omega)
          rw [sameL_same hv] at h1
          exact h1)
        clear HJ HM2 HM3
        go_wp2_with (first
          | (go_at_call 16; with_reducible refine HRZ.out.mono ?_; rintro e W11 ⟨xa, x, xc, X, rfl, hB, hA, hR⟩; obtain ⟨rfl, hv⟩ := IsRen.same (fun i _ => SameV.refl (N i)) HR2.out hR; have HX : Hid (∃ X, NoAt W11 xa i X ∧ ∀ j, j < i → SameV (X j) (K2 j)) := Hid.mk ⟨X, hA.NoAt, fun j hj => (hv j hj).symm⟩; have HB11 := Hid.mk hB; replace BZ := Hid.mk (BZ.out.trans (hB.mono BZ.out.size)); clear hB hA hR hv HRZ)
          | (go_at_call 19; with_reducible refine (HLS.out _ xa xc HB11.out HX.out).mono ?_; rintro e W12 ⟨rfl, hB⟩; replace BZ := Hid.mk (BZ.out.trans (hB.mono BZ.out.size)); clear hB HLS))
        refine bodyPost_ret (results_tmp rfl _ _ _) rfl ?_
        exact ⟨rfl, BZ.out⟩
end Go.Proofs.Ytbahbhaoimabdaa
