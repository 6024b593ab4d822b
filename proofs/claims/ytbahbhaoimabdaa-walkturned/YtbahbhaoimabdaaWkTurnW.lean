/-
  WalkTurned: its walk.
-/
import Derived.Test.YtbahbhaoimabdaaWkAlive
import Derived.Test.YtbahbhaoimabdaaWkTurnM
namespace Go.Proofs.Ytbahbhaoimabdaa
open Go Go.Proofs Go.RowKit Go.Shelf

/-- The first nodes have numbers of their own. -/
def TurnTo (n : Nat) (N : Nat → NoV) (i : Nat) : Prop := ∀ j, j < i → (1 ≤ (N j).ino ∧ (N j).ino ≤ 1000000 ∧ firstN n N (N j).ino = some j) ∧ ∀ k, k < (N j).sn → ((N j).E k).ino = 0 ∨ 1 ≤ ((N j).E k).ino ∧ ((N j).E k).ino ≤ 1000000
theorem atS_some {n : Nat} {N : Nat → NoV} {x : Int} {i : Nat} (h : atS n N x = (i : Int)) : firstN n N x = some i := by
  unfold atS at h
  cases hf : firstN n N x with
  | none => rw [hf] at h; dsimp only at h; omega
  | some j => rw [hf] at h; dsimp only at h; congr 1; omega
theorem exec_ldI {ev : Operand → Value} {oi : Oper} {x : Operand} {a : Addr} {v : Value} {W : World} (ho : oi.op = .load 3 x) (hx : ev x = .pointer (some a)) (hc : W.cell? a = some v) : (execOp ev oi).run Try.prog W = .ok (.value v) W := by
  unfold execOp
  rw [ho]
  simp only [hx]
  go_simp
theorem exec_addI {ev : Operand → Value} {oi : Oper} {x y : Operand} {u : TypeId} {n m : Int} {W : World} (ho : oi.op = .binOp .add 3 x y u) (hx : ev x = .int .i64 n) (hy : ev y = .int .i64 m) (hw : IntKind.i64.wrap (n + m) = n + m) : (execOp ev oi).run Try.prog W = .ok (.value (.int .i64 (n + m))) W := by
  unfold execOp
  rw [ho]
  simp only [hx, hy]
  go_simp
set_option maxRecDepth 100000 in
set_option maxHeartbeats 4000000 in
theorem walkturned_law (w : World) (ao : Option Addr) (n cc : Nat) (N : Nat → NoV) (a1 a2 : Int) (hN : NoAt w ao n N) (hm : n ≤ 8796093022208) (hb : ∀ i, i < n → (N i).sn ≤ 8796093022208 ∧ (N i).bn ≤ 8796093022208) : Calls Try.prog 8 #[.slice ao n cc, .int .i64 a1, .int .i64 a2] w fun e w' => e = .returned (.bool true) ∧ Below w.heap.size w w' := by
  have HAL := Hid.mk (alive_any w)
  obtain ⟨b1, hb1⟩ : ∃ b1, b1 = (bigB n N || decide (a2 < 1) || decide (1000000 < a2) || decide (a1 < 0)) := ⟨_, rfl⟩
  obtain ⟨b2, hb2⟩ : ∃ b2, b2 = bigB n N := ⟨_, rfl⟩
  have HB1 : Hid (∀ W, Below w.heap.size w W → Calls Try.prog 10 #[.slice ao n cc] W fun e w' => e = .returned (.bool b2) ∧ Below W.heap.size W w') := Hid.mk (fun W hB => by rw [hb2]; exact big_any W ao n cc N (hN.blw hB) (by omega))
  by_cases hx : b1 = true
  · rw [hb1, ← hb2] at hx
    have hx' : b2 = true ∨ b2 = false ∧ a2 < 1 ∨ b2 = false ∧ ¬ a2 < 1 ∧ 1000000 < a2 ∨ b2 = false ∧ ¬ a2 < 1 ∧ ¬ 1000000 < a2 ∧ a1 < 0 := by
      cases b2 with
      | true => exact .inl rfl
      | false =>
        by_cases q1 : a2 < 1
        · exact .inr (.inl ⟨rfl, q1⟩)
        · by_cases q2 : 1000000 < a2
          · exact .inr (.inr (.inl ⟨rfl, q1, q2⟩))
          · refine .inr (.inr (.inr ⟨rfl, q1, q2, ?_⟩))
            simpa [q1, q2] using hx
    clear hN hm hb hb1 hb2 hx
    rcases hx' with rfl | ⟨rfl, h1⟩ | ⟨rfl, h1, h2⟩ | ⟨rfl, h1, h2, h3⟩ <;>
    · go_enter Try.func8, Try.ntmps8
      go_wp2_with (first | (go_at_call 9; with_reducible refine HAL.out.mono ?_; rintro e W ⟨rfl, hB⟩; have BB := Hid.mk hB; clear hB HAL) | (go_at_call 10; with_reducible refine (HB1.out _ BB.out).mono ?_; rintro e W ⟨rfl, hB⟩; replace BB := Hid.mk (BB.out.trans (hB.mono BB.out.size)); clear hB HB1))
      go_ret
      exact ⟨rfl, BB.out⟩
  · rw [hb1, ← hb2] at hx
    have hx' : b2 = false ∧ ¬ a2 < 1 ∧ ¬ 1000000 < a2 ∧ ¬ a1 < 0 := by
      cases b2 with
      | true => exact absurd rfl hx
      | false =>
        simp only [Bool.false_or, Bool.or_eq_true, decide_eq_true_eq, not_or] at hx
        exact ⟨rfl, hx.1.1, hx.1.2, hx.2⟩
    obtain ⟨rfl, q1, q2, q3⟩ := hx'
    have HS := Hid.mk (Sml.of_big hb hb2.symm)
    have hnl := HS.out.le
    have HN := Hid.mk hN
    have HAT := Hid.mk (fun (W : World) (x : Int) (h : Below w.heap.size w W) => at_any W ao n cc N x (hN.blw h) (by omega))
    clear hN hm hb hb1 hb2 hx
    go_enter Try.func8, Try.ntmps8
    go_upto_region 5 with (first
      | (go_at_call 9; with_reducible refine HAL.out.mono ?_; rintro e W3 ⟨rfl, hB⟩; have BB := Hid.mk hB; clear hB HAL)
      | (go_at_call 10; with_reducible refine (HB1.out _ BB.out).mono ?_; rintro e W4 ⟨rfl, hB⟩; replace BB := Hid.mk (BB.out.trans (hB.mono BB.out.size)); clear hB HB1))
    go_wp2
    go_loopw [9] (fun iv wr => ∃ i : Nat, i ≤ n ∧ iv = .int .i64 (i : Int) ∧ Hid (Below w.heap.size w wr ∧ TurnTo n N i)) (fun iv _ => ((n : Int) - Go.RowKit.intOf iv).toNat)
    case atStart => exact ⟨0, by omega, rfl, Hid.mk ⟨BB.out, fun j hj => absurd hj (Nat.not_lt_zero j)⟩⟩
    case round =>
      obtain ⟨i, hi, rfl, HK⟩ := hrel
      clear BB
      have hi0 : (0 : Int) ≤ (i : Int) := by omega
      by_cases hlt : i < n
      · obtain ⟨fl, ol, hao, -, ⟨z0, -, -, -, -, z5⟩, -, -, -⟩ := no_at (HN.out.blw HK.out.1) hlt
        obtain ⟨x, hx⟩ : ∃ x, x = (N i).ino := ⟨_, rfl⟩
        rw [← hx] at z0
        have HX := Hid.mk hx
        have HLT := Hid.mk hlt
        have hin : (i : Int) < (n : Int) := by omega
        have hii : IntKind.i64.wrap ((i : Int) + 1) = (i : Int) + 1 := by rw [IntKind.wrap_i64]; omega
        have HAO := Hid.mk hao
        have HAE := Hid.mk (HAT.out wr x HK.out.1)
        rw [hao] at HAE
        rw [hao]
        obtain ⟨av, hav⟩ : ∃ z, z = atS n N x := ⟨_, rfl⟩
        rw [← hav] at HAE
        have HAV := Hid.mk hav
        clear hx hao hav hlt
        by_cases h1 : x < 1
        · go_wp2
          refine bodyPost_ret (results_tmp rfl _ _ _) rfl ?_
          exact ⟨rfl, HK.out.1⟩
        · by_cases h2 : 1000000 < x
          · go_wp2
            refine bodyPost_ret (results_tmp rfl _ _ _) rfl ?_
            exact ⟨rfl, HK.out.1⟩
          · by_cases h3 : av = (i : Int)
            · have h3b : (av == (i : Int)) = true := by simpa using h3
              have HXF : Hid (1 ≤ (N i).ino ∧ (N i).ino ≤ 1000000 ∧ firstN n N (N i).ino = some i) := Hid.mk ⟨by rw [← HX.out]; omega, by rw [← HX.out]; omega, by rw [← HX.out]; exact atS_some (HAV.out.symm.trans h3)⟩
              go_upto_region 10 with (go_at_call 20; refine HAE.out.mono ?_; rintro e w6 ⟨rfl, hw6⟩; replace hw6 := hw6.symm; subst hw6)
              obtain ⟨so, hso⟩ : ∃ z, z = (N i).so := ⟨_, rfl⟩
              obtain ⟨sn, hsn⟩ : ∃ z, z = (N i).sn := ⟨_, rfl⟩
              obtain ⟨sc, hsc⟩ : ∃ z, z = (N i).sc := ⟨_, rfl⟩
              have HSL : Hid (∀ W, Below w.heap.size w W → W.cell? ⟨fl, ol + i * 6 + 5, none⟩ = some (.slice so sn sc) ∧ EnAt W so sn (N i).E) := Hid.mk (fun W hB => by
                obtain ⟨fl', ol', e, -, ⟨-, -, -, -, -, c5⟩, -, hE, -⟩ := no_at (HN.out.blw hB) HLT.out
                rw [HAO.out] at e
                cases e
                rw [hso, hsn, hsc]
                exact ⟨c5, hE⟩)
              have hsl : sn ≤ 500 := by rw [hsn]; exact HS.out.sn i HLT.out
              have HSN := Hid.mk hsn
              rw [← hso, ← hsn, ← hsc] at z5
              clear hso hsn hsc z0 HAE h1 h2 h3 h3b
              go_wp2
              go_loopw [10] (fun jv w5 => ∃ q : Nat, q ≤ sn ∧ jv = .int .i64 (q : Int) ∧ Hid (Below w.heap.size w w5 ∧ ∀ k, k < q → ((N i).E k).ino = 0 ∨ 1 ≤ ((N i).E k).ino ∧ ((N i).E k).ino ≤ 1000000)) (fun jv _ => ((sn : Int) - Go.RowKit.intOf jv).toNat)
              case atStart => exact ⟨0, by omega, rfl, Hid.mk ⟨HK.out.1, fun k hk => absurd hk (Nat.not_lt_zero k)⟩⟩
              case round =>
                clear z5
                obtain ⟨q, hq, rfl, HQ⟩ := hrel
                obtain ⟨c5, hE⟩ := HSL.out wr HQ.out.1
                have hq0 : (0 : Int) ≤ (q : Int) := by omega
                by_cases hqs : q < sn
                · obtain ⟨sb, sp, rfl, -, hc⟩ := hE (by omega)
                  obtain ⟨c0, c1⟩ := hc q hqs
                  obtain ⟨en, hen⟩ : ∃ en, en = (N i).E q := ⟨_, rfl⟩
                  rw [← hen] at c0 c1
                  have HEN := Hid.mk hen
                  have hqn : (q : Int) < (sn : Int) := by omega
                  have hqq : IntKind.i64.wrap ((q : Int) + 1) = (q : Int) + 1 := by rw [IntKind.wrap_i64]; omega
                  clear hc hE hen
                  have HNX : Hid (∀ W, Below wr.heap.size wr W → (en.ino = 0 ∨ 1 ≤ en.ino ∧ en.ino ≤ 1000000) → Below w.heap.size w W ∧ ∀ k, k < q + 1 → ((N i).E k).ino = 0 ∨ 1 ≤ ((N i).E k).ino ∧ ((N i).E k).ino ≤ 1000000) := Hid.mk (fun W hB he => ⟨HQ.out.1.trans (hB.mono HQ.out.1.size), fun k hk => by
                    by_cases e : k = q
                    · subst e; rw [← HEN.out]; exact he
                    · exact HQ.out.2 k (by omega)⟩)
                  by_cases e0 : en.ino = 0
                  · have e0b : (en.ino == 0) = true := by simpa using e0
                    rw [e0] at c0
                    go_wp2
                    refine ⟨⟨q + 1, hqs, by push_cast; rfl, Hid.mk (HNX.out _ ((Below.refl _ wr).alloc (Nat.le_refl _) _) (.inl e0))⟩, by simp [Go.RowKit.intOf]; omega⟩
                  · have e0b : (en.ino == 0) = false := by simpa using e0
                    by_cases e1 : en.ino < 1
                    · go_wp2
                      refine bodyPost_ret (results_tmp rfl _ _ _) rfl ?_
                      exact ⟨rfl, HQ.out.1.trans (((Below.refl _ wr).alloc (Nat.le_refl _) _).mono HQ.out.1.size)⟩
                    · by_cases e2 : 1000000 < en.ino
                      · go_wp2
                        refine bodyPost_ret (results_tmp rfl _ _ _) rfl ?_
                        exact ⟨rfl, HQ.out.1.trans (((Below.refl _ wr).alloc (Nat.le_refl _) _).mono HQ.out.1.size)⟩
                      · go_wp2
                        refine ⟨⟨q + 1, hqs, by push_cast; rfl, Hid.mk (HNX.out _ ((Below.refl _ wr).alloc (Nat.le_refl _) _) (.inr ⟨by omega, by omega⟩))⟩, by simp [Go.RowKit.intOf]; omega⟩
                · obtain rfl : q = sn := by omega
                  go_wp2
                  refine ⟨⟨i + 1, HLT.out, by push_cast; rfl, Hid.mk ⟨HQ.out.1, fun j hj => ?_⟩⟩, by simp [Go.RowKit.intOf]; omega⟩
                  by_cases e : j = i
                  · subst e
                    exact ⟨HXF.out, by rw [← HSN.out]; exact HQ.out.2⟩
                  · exact HK.out.2 j (by omega)
            · have h3b : (av == (i : Int)) = false := by simpa using h3
              go_wp2_with (go_at_call 20; refine HAE.out.mono ?_; rintro e w6 ⟨rfl, hw6⟩; replace hw6 := hw6.symm; subst hw6)
              refine bodyPost_ret (results_tmp rfl _ _ _) rfl ?_
              exact ⟨rfl, HK.out.1⟩
      · obtain rfl : i = n := by omega
        have HOK : Hid (TurnOk i N) := Hid.mk ⟨fun j hj => (HK.out.2 j hj).1, fun j hj => (HK.out.2 j hj).2⟩
        obtain ⟨b, hb⟩ : ∃ b, b = (a1 % (i : Int)).toNat := ⟨_, rfl⟩
        have HB := Hid.mk hb
        have HJ0 := Hid.mk (TuJ.zero w i b a2 N wr HK.out.1)
        clear hb
        clear HK
        go_wp2
        go_loopw [12, 13] (fun ov kv wr => ∃ (k : Nat) (oa : Option Addr) (oc : Nat) (O : List NoV), k ≤ i ∧ ov = .slice oa k oc ∧ kv = .int .i64 (k : Int) ∧ Hid (TuJ w i b a2 N k ov O wr)) (fun _ kv _ => ((i : Int) - Go.RowKit.intOf kv).toNat)
        case atStart => exact ⟨0, none, 0, [], by omega, rfl, rfl, HJ0⟩
        case round =>
          clear HJ0
          obtain ⟨k, oa, oc, O, hk, rfl, rfl, HK⟩ := hrel
          have hk0 : (0 : Int) ≤ (k : Int) := by omega
          by_cases hlt : k < i
          · have hin0 : ((i : Int) == 0) = false := by rw [beq_eq_false_iff_ne]; omega
            have hm0 := Int.emod_nonneg a1 (show (i : Int) ≠ 0 by omega)
            have hm1 := Int.emod_lt_of_pos a1 (show (0 : Int) < (i : Int) by omega)
            have hbn : (b : Int) = a1 % (i : Int) := by rw [HB.out]; omega
            have hbi : b < i := by omega
            obtain ⟨p, hp⟩ : ∃ p, p = turnP i b k := ⟨_, rfl⟩
            have hpi : p < i := by rw [hp]; exact turnP_lt hbi hlt
            have hidx : (wrap64 ((k : Int) + a1 % (i : Int))).tmod (i : Int) = (p : Int) := by
              rw [← hbn, wrap64_id (by omega) (by omega), Int.tmod_eq_emod_of_nonneg (by omega), hp]
              unfold turnP
              split
              · rw [Int.emod_eq_of_lt (by omega) (by omega)]; push_cast; rfl
              · rw [show (k : Int) + (b : Int) = ((k + b - i : Nat) : Int) + (i : Int) by omega, Int.add_emod_right, Int.emod_eq_of_lt (by omega) (by omega)]
            have HP := Hid.mk hpi
            have HPE := Hid.mk hp
            have hp0 : (0 : Int) ≤ (p : Int) := by omega
            have hpI : (p : Int) < (i : Int) := by omega
            obtain ⟨fl, ol, hao, -, ⟨z0, z1, z2, z3, z4, z5⟩, -, -, -⟩ := no_at (HN.out.blw HK.out.below) hpi
            have HEN : Hid (∀ W, Below w.heap.size w W → EnAt W (N p).so (N p).sn (N p).E) := Hid.mk (fun W hB => by
              obtain ⟨-, -, -, -, -, -, h1, -⟩ := no_at (HN.out.blw hB) HP.out
              exact h1)
            have hkk : IntKind.i64.wrap ((k : Int) + 1) = (k : Int) + 1 := by rw [IntKind.wrap_i64]; omega
            have HLT := Hid.mk hlt
            rw [hao]
            clear hm0 hm1 hbn hbi hp hpi hao hlt
            go_upto_region 21 with fail
            obtain ⟨X1, hX1⟩ : ∃ X1, X1 = wr.alloc (.cells #[.int .i64 (N p).ino, .int .i64 (N p).kind, .int .i64 (N p).links, .int .i64 (N p).size, .slice (N p).bo (N p).bn (N p).bc, .slice (N p).so (N p).sn (N p).sc] 39) := ⟨_, rfl⟩
            have hBX : Below wr.heap.size wr X1 := by rw [hX1]; exact (Below.refl _ wr).alloc (Nat.le_refl _) _
            have gX1 : X1.heap[wr.heap.size]? = some (.cells #[.int .i64 (N p).ino, .int .i64 (N p).kind, .int .i64 (N p).links, .int .i64 (N p).size, .slice (N p).bo (N p).bn (N p).bc, .slice (N p).so (N p).sn (N p).sc] 39 (0, 0)) := by rw [hX1]; exact blk_new wr _
            rw [← hX1]
            obtain ⟨bx, hbx⟩ : ∃ bx, bx = wr.heap.size := ⟨_, rfl⟩
            rw [← hbx] at gX1 hBX ⊢
            have HBE := Hid.mk hbx
            have c0 := blk_cell gX1 0
            simp at c0
            have hsl : (N p).sn ≤ 500 := HS.out.sn p HP.out
            clear hX1 hbx z0 z1 z2 z3 z4 z5
            by_cases h1 : 1 < (N p).ino
            · have hq1 : IntKind.i64.wrap ((N p).ino + a2) = (N p).ino + a2 := by have := (HOK.out.ino p HP.out).2.1; rw [IntKind.wrap_i64]; omega
              have c0f : X1.frozen? ⟨bx, 0, none⟩ = false := by simp [World.frozen?, gX1]
              have HX2 : Hid ((X1.setCell ⟨bx, 0, none⟩ (.int .i64 ((N p).ino + a2))).heap[bx]? = some (.cells #[.int .i64 (tf a2 (N p).ino), .int .i64 (N p).kind, .int .i64 (N p).links, .int .i64 (N p).size, .slice (N p).bo (N p).bn (N p).bc, .slice (N p).so (N p).sn (N p).sc] 39 (0, 0))) := Hid.mk (by
                have h2 := blk_set (i := 0) (u := .int .i64 ((N p).ino + a2)) gX1
                simp only [List.setIfInBounds_toArray, List.set_cons_zero] at h2
                rw [h2]
                unfold tf
                rw [if_pos h1])
              have HB2 : Hid (Below bx wr (X1.setCell ⟨bx, 0, none⟩ (.int .i64 ((N p).ino + a2)))) := Hid.mk (hBX.setCell (Nat.le_refl bx) _)
              clear hBX gX1
              go_upto_region 23 with fail
              clear c0 c0f
              generalize X1.setCell ⟨bx, 0, none⟩ (.int .i64 ((N p).ino + a2)) = X2 at *
              have hB2 : Below wr.heap.size wr X2 := by rw [← HBE.out]; exact HB2.out
              obtain ⟨v3, W3, har, hv3, hB3⟩ := appE_run X2 (N p).so (N p).sn (N p).sc (N p).E ((HEN.out wr HK.out.below).blw hB2) (by omega)
              obtain ⟨so, sc, rfl, -, -⟩ := owns_val hv3
              have HI0 := Hid.mk (HK.out.start hB2 HX2.out (by rw [HBE.out]; exact Nat.le_refl _) hv3 hB3)
              have HAR := Hid.mk har
              have g3 := (hB3.block _ (lt_of_block HX2.out)).trans HX2.out
              have c5 := blk_cell HX2.out 5
              have u5 := blk_cell g3 5
              simp at c5 u5
              have f5 : W3.frozen? ⟨bx, 5, none⟩ = false := by simp [World.frozen?, g3]
              clear hB2 hv3 hB3 g3 har
              go_upto_region 24 with (at_builtin; refine wpList_append_known rfl _ _ _ rfl _ _ _ _ rfl rfl HAR.out ?_; simp only [Act.put, List.setIfInBounds_toArray, List.set_cons_zero, List.set_cons_succ])
              clear c5 u5 f5 HAR
              generalize W3.setCell ⟨bx, 5, none⟩ (.slice so (N p).sn sc) = X4 at *
              obtain ⟨y, hy⟩ : ∃ y, y = { tN a2 (N p) with so := so, sc := sc } := ⟨_, rfl⟩
              have hsn : (N p).sn = y.sn := by rw [hy]; rfl
              rw [← hy] at HI0
              have HY := Hid.mk hy
              have HIS : Hid (TuI w i b a2 N k (.slice oa k oc) O y (fun j => if j < 0 then tE a2 ((N p).E j) else (N p).E j) bx X4) := Hid.mk (HI0.out.say (fun j hj => by rw [if_neg (by omega)]))
              rw [hsn] at hsl
              clear hy hsn HI0 HX2 HB2 HEN
              have c5 := blk_cell HIS.out.box 5
              simp at c5
              go_wp2
              go_loopw [15] (fun jv w5 => ∃ q : Nat, q ≤ y.sn ∧ jv = .int .i64 (q : Int) ∧ Hid (TuI w i b a2 N k (.slice oa k oc) O y (fun j => if j < q then tE a2 ((N p).E j) else (N p).E j) bx w5)) (fun jv _ => ((y.sn : Int) - Go.RowKit.intOf jv).toNat)
              case atStart => exact ⟨0, by omega, rfl, HIS⟩
              case round =>
                clear HIS c5 h1
                obtain ⟨q, hq, rfl, HQ⟩ := hrel
                have b5 := blk_cell HQ.out.box 5
                simp at b5
                have hq0 : (0 : Int) ≤ (q : Int) := by omega
                by_cases hlq : q < y.sn
                · have hown := HQ.out.own
                  obtain ⟨gs, sc', e, -, -, hso, -⟩ := owns_some hown (by omega)
                  unfold slV at e
                  injection e with e1 e2 e3
                  obtain ⟨k0, k0f⟩ := owns_cellG hown hso (q * 2) (by omega)
                  replace k0 := k0.trans (Ey_get y.sn _ q hlq).1
                  rw [if_neg (Nat.lt_irrefl q)] at k0
                  obtain ⟨en, hen⟩ : ∃ en, en = (N p).E q := ⟨_, rfl⟩
                  rw [← hen] at k0
                  have hqn : (q : Int) < (y.sn : Int) := by omega
                  have hqq : IntKind.i64.wrap ((q : Int) + 1) = (q : Int) + 1 := by rw [IntKind.wrap_i64]; omega
                  have HEN := Hid.mk hen
                  have HSO := Hid.mk hso
                  have HLQ := Hid.mk hlq
                  rw [e1] at b5
                  clear hen e1 e2 e3 hso hown
                  by_cases h7 : 1 < en.ino
                  · have HWR : Hid (IntKind.i64.wrap (en.ino + a2) = en.ino + a2) := Hid.mk (by
                      have h8 := HOK.out.slot p HP.out q (by rw [HY.out] at hlq; exact hlq)
                      rw [← HEN.out] at h8
                      rw [IntKind.wrap_i64]; omega)
                    have HSS : Hid (∀ A : World, (∀ b, b ≠ gs → A.heap[b]? = wr.heap[b]?) → A.cell? ⟨bx, 5, none⟩ = some (.slice (some ⟨gs, 0, none⟩) y.sn y.sc)) := Hid.mk (fun A hA => by
                      obtain ⟨-, -, cs3, hk3⟩ := owns_kind HQ.out.own gs HSO.out
                      exact (World.cell?_of_block (w := wr) (hA bx (ty_ne HQ.out.box hk3 (by decide)))).trans b5)
                    have HKG : Hid (wr.drew.cell? ⟨gs, q * 2, none⟩ = some (.int .i64 en.ino) ∧ wr.drew.frozen? ⟨gs, q * 2, none⟩ = false) := Hid.mk ⟨k0, k0f⟩
                    go_upto_region 28 with fail
                    clear k0 k0f b5
                    refine wp_region_held_drew (S := fun (A : World) => A.cell? ⟨bx, 5, none⟩ = some (.slice (some ⟨gs, 0, none⟩) y.sn y.sc)) (by kernel_rfl) (HSS.out _ (fun _ _ => rfl)) (fun hH => ?_)
                    change wpAnyH Try.prog Region.Mode.any _ _ _ 14 _ _ _
                    refine takeH 0 143 (.pointer (some ⟨bx, 5, none⟩)) rfl (by kernel_rfl) (by kernel_rfl) (by kernel_rfl) (by kernel_rfl) (fun _ _ _ h => h) (by kernel_rfl) (fun w hw => by (try dsimp only at hw); go_simp) hH ?_
                    simp only [List.setIfInBounds_toArray, List.set_cons_zero, List.set_cons_succ]
                    refine takeH 1 144 (.slice (some ⟨gs, 0, none⟩) y.sn y.sc) rfl (by kernel_rfl) (by kernel_rfl) (by kernel_rfl) (by kernel_rfl) (fun _ _ _ h => h) (by kernel_rfl) (fun w hw => by (try dsimp only at hw); go_simp) hH ?_
                    simp only [List.setIfInBounds_toArray, List.set_cons_zero, List.set_cons_succ]
                    refine takeH 2 145 (.int .i64 (q : Nat)) rfl (by kernel_rfl) (by kernel_rfl) (by kernel_rfl) (by kernel_rfl) (fun _ _ _ h => h) (by kernel_rfl) (fun w hw => by (try dsimp only at hw); go_simp) hH ?_
                    simp only [List.setIfInBounds_toArray, List.set_cons_zero, List.set_cons_succ]
                    refine takeH 3 146 (.pointer (some ⟨bx, 5, none⟩)) rfl (by kernel_rfl) (by kernel_rfl) (by kernel_rfl) (by kernel_rfl) (fun _ _ _ h => h) (by kernel_rfl) (fun w hw => by (try dsimp only at hw); go_simp) hH ?_
                    simp only [List.setIfInBounds_toArray, List.set_cons_zero, List.set_cons_succ]
                    refine takeH 4 147 (.slice (some ⟨gs, 0, none⟩) y.sn y.sc) rfl (by kernel_rfl) (by kernel_rfl) (by kernel_rfl) (by kernel_rfl) (fun _ _ _ h => h) (by kernel_rfl) (fun w hw => by (try dsimp only at hw); go_simp) hH ?_
                    simp only [List.setIfInBounds_toArray, List.set_cons_zero, List.set_cons_succ]
                    refine takeH 5 148 (.int .i64 (q : Nat)) rfl (by kernel_rfl) (by kernel_rfl) (by kernel_rfl) (by kernel_rfl) (fun _ _ _ h => h) (by kernel_rfl) (fun w hw => by (try dsimp only at hw); go_simp) hH ?_
                    simp only [List.setIfInBounds_toArray, List.set_cons_zero, List.set_cons_succ]
                    refine takeH 6 149 (.pointer (some ⟨gs, q * 2, none⟩)) rfl (by kernel_rfl) (by kernel_rfl) (by kernel_rfl) (by kernel_rfl) (fun _ _ _ h => h) (by kernel_rfl) (fun w hw => by (try dsimp only at hw); go_simp) hH ?_
                    simp only [List.setIfInBounds_toArray, List.set_cons_zero, List.set_cons_succ]
                    refine takeH 7 150 (.pointer (some ⟨gs, q * 2, none⟩)) rfl (by kernel_rfl) (by kernel_rfl) (by kernel_rfl) (by kernel_rfl) (fun _ _ _ h => h) (by kernel_rfl) (fun w hw => by (try dsimp only at hw); go_simp) hH ?_
                    simp only [List.setIfInBounds_toArray, List.set_cons_zero, List.set_cons_succ]
                    refine takeH 9 152 (.int .i64 a2) rfl (by kernel_rfl) (by kernel_rfl) (by kernel_rfl) (by kernel_rfl) (fun _ _ _ h => h) (by kernel_rfl) (fun w hw => by (try dsimp only at hw); go_simp) hH ?_
                    simp only [List.setIfInBounds_toArray, List.set_cons_zero, List.set_cons_succ]
                    refine stepH 8 151 (.int .i64 en.ino) rfl (by kernel_rfl) (by kernel_rfl) (by kernel_rfl) (exec_ldI (x := .tmp 150) rfl (by kernel_rfl) HKG.out.1) hH ?_
                    simp only [List.setIfInBounds_toArray, List.set_cons_zero, List.set_cons_succ]
                    refine stepH 10 153 (.int .i64 (en.ino + a2)) rfl (by kernel_rfl) (by kernel_rfl) (by kernel_rfl) (exec_addI (x := .tmp 151) (y := .tmp 152) rfl (by kernel_rfl) (by kernel_rfl) HWR.out) hH ?_
                    simp only [List.setIfInBounds_toArray, List.set_cons_zero, List.set_cons_succ]
                    refine stepH 11 154 (.pointer (some ⟨gs, q * 2, none⟩)) rfl (by kernel_rfl) (by kernel_rfl) (by kernel_rfl) (by go_simp) hH ?_
                    simp only [List.setIfInBounds_toArray, List.set_cons_zero, List.set_cons_succ]
                    refine stepH 12 155 (.pointer (some ⟨gs, q * 2, none⟩)) rfl (by kernel_rfl) (by kernel_rfl) (by kernel_rfl) (by go_simp) hH ?_
                    simp only [List.setIfInBounds_toArray, List.set_cons_zero, List.set_cons_succ]
                    refine stepH_one 13 (by kernel_rfl) ?_
                    refine opH_store 13 (wr.drew.setCell ⟨gs, q * 2, none⟩ (.int .i64 (en.ino + a2))) rfl (by kernel_rfl) (by kernel_rfl) (exec_stI (p := .tmp 155) (x := .tmp 153) rfl (by kernel_rfl) (by kernel_rfl) HKG.out.1 HKG.out.2) (HSS.out _ (fun b hb => Below.heap_setCell _ _ _ _ hb)) ?_
                    refine wpAnyH_done (by kernel_rfl) ?_ _
                    go_wp2
                    refine ⟨⟨q + 1, HLQ.out, by push_cast; rfl, Hid.mk ?_⟩, by simp [Go.RowKit.intOf]; omega⟩
                    refine ((HQ.out.ino HSO.out HLQ.out (en.ino + a2)).say (fun j hj => ?_)).blw (Below.refl _ _).drew
                    rw [if_neg (Nat.lt_irrefl q)]
                    refine next_if (E := fun j => tE a2 ((N p).E j)) (F := (N p).E) ?_
                    show tE a2 ((N p).E q) = _
                    unfold tE tf
                    rw [← HEN.out, if_pos h7]
                  · go_wp2
                    refine ⟨⟨q + 1, HLQ.out, by push_cast; rfl, Hid.mk (HQ.out.say (fun j hj => ?_))⟩, by simp [Go.RowKit.intOf]; omega⟩
                    by_cases e : j = q
                    · subst e
                      rw [if_neg (Nat.lt_irrefl j), if_pos (Nat.lt_succ_self j), ← HEN.out]
                      unfold tE tf
                      rw [if_neg h7]
                    · by_cases e2 : j < q
                      · rw [if_pos e2, if_pos (by omega)]
                      · rw [if_neg e2, if_neg (by omega)]
                · obtain rfl : q = y.sn := by omega
                  obtain ⟨ov', X9, har, hown9, hg9, -⟩ := appendN_run wr w.heap.size (.slice oa k oc) k O y HQ.out.j.out HQ.out.j.below.size (by omega)
                  obtain ⟨na, nc, rfl, -, -⟩ := owns_val hown9
                  have HJ9 : Hid (TuJ w i b a2 N (k + 1) (.slice na (k + 1) nc) (O ++ [y]) X9) := Hid.mk (by
                    refine TuI.push ((HQ.out.say (G := (tN a2 (N (turnP i b k))).E) (fun j hj => by rw [if_pos hj, ← HPE.out]; rfl)).blw ((Below.refl _ wr).alloc (Nat.le_refl _) _)) (so := so) (sc := sc) ?_ hown9 hg9
                    rw [← HPE.out]; exact HY.out)
                  have HAR := Hid.mk har
                  simp only [noC] at HAR
                  have b0 := blk_cell HQ.out.box 0
                  have b1 := blk_cell HQ.out.box 1
                  have b2 := blk_cell HQ.out.box 2
                  have b3 := blk_cell HQ.out.box 3
                  have b4 := blk_cell HQ.out.box 4
                  simp at b0 b1 b2 b3 b4
                  clear har hown9 hg9
                  go_wp2_with (at_builtin; refine wpList_append_known rfl _ _ _ rfl _ _ _ _ rfl rfl HAR.out ?_; simp only [Act.put, List.setIfInBounds_toArray, List.set_cons_zero, List.set_cons_succ])
                  refine ⟨⟨k + 1, na, nc, O ++ [y], HLT.out, rfl, by push_cast; rfl, HJ9⟩, by simp [Go.RowKit.intOf]; omega⟩
            · have HX2 : Hid (X1.heap[bx]? = some (.cells #[.int .i64 (tf a2 (N p).ino), .int .i64 (N p).kind, .int .i64 (N p).links, .int .i64 (N p).size, .slice (N p).bo (N p).bn (N p).bc, .slice (N p).so (N p).sn (N p).sc] 39 (0, 0))) := Hid.mk (by
                unfold tf
                rw [if_neg h1]
                exact gX1)
              have HB2 : Hid (Below bx wr X1) := Hid.mk hBX
              clear hBX gX1
              go_upto_region 23 with fail
              clear c0
              obtain ⟨X2, hX2⟩ : ∃ X2, X2 = X1 := ⟨_, rfl⟩
              rw [← hX2] at HX2 HB2 ⊢
              clear hX2
              have hB2 : Below wr.heap.size wr X2 := by rw [← HBE.out]; exact HB2.out
              obtain ⟨v3, W3, har, hv3, hB3⟩ := appE_run X2 (N p).so (N p).sn (N p).sc (N p).E ((HEN.out wr HK.out.below).blw hB2) (by omega)
              obtain ⟨so, sc, rfl, -, -⟩ := owns_val hv3
              have HI0 := Hid.mk (HK.out.start hB2 HX2.out (by rw [HBE.out]; exact Nat.le_refl _) hv3 hB3)
              have HAR := Hid.mk har
              have g3 := (hB3.block _ (lt_of_block HX2.out)).trans HX2.out
              have c5 := blk_cell HX2.out 5
              have u5 := blk_cell g3 5
              simp at c5 u5
              have f5 : W3.frozen? ⟨bx, 5, none⟩ = false := by simp [World.frozen?, g3]
              clear hB2 hv3 hB3 g3 har
              go_upto_region 24 with (at_builtin; refine wpList_append_known rfl _ _ _ rfl _ _ _ _ rfl rfl HAR.out ?_; simp only [Act.put, List.setIfInBounds_toArray, List.set_cons_zero, List.set_cons_succ])
              clear c5 u5 f5 HAR
              generalize W3.setCell ⟨bx, 5, none⟩ (.slice so (N p).sn sc) = X4 at *
              obtain ⟨y, hy⟩ : ∃ y, y = { tN a2 (N p) with so := so, sc := sc } := ⟨_, rfl⟩
              have hsn : (N p).sn = y.sn := by rw [hy]; rfl
              rw [← hy] at HI0
              have HY := Hid.mk hy
              have HIS : Hid (TuI w i b a2 N k (.slice oa k oc) O y (fun j => if j < 0 then tE a2 ((N p).E j) else (N p).E j) bx X4) := Hid.mk (HI0.out.say (fun j hj => by rw [if_neg (by omega)]))
              rw [hsn] at hsl
              clear hy hsn HI0 HX2 HB2 HEN
              have c5 := blk_cell HIS.out.box 5
              simp at c5
              go_wp2
              go_loopw [15] (fun jv w5 => ∃ q : Nat, q ≤ y.sn ∧ jv = .int .i64 (q : Int) ∧ Hid (TuI w i b a2 N k (.slice oa k oc) O y (fun j => if j < q then tE a2 ((N p).E j) else (N p).E j) bx w5)) (fun jv _ => ((y.sn : Int) - Go.RowKit.intOf jv).toNat)
              case atStart => exact ⟨0, by omega, rfl, HIS⟩
              case round =>
                clear HIS c5 h1
                obtain ⟨q, hq, rfl, HQ⟩ := hrel
                have b5 := blk_cell HQ.out.box 5
                simp at b5
                have hq0 : (0 : Int) ≤ (q : Int) := by omega
                by_cases hlq : q < y.sn
                · have hown := HQ.out.own
                  obtain ⟨gs, sc', e, -, -, hso, -⟩ := owns_some hown (by omega)
                  unfold slV at e
                  injection e with e1 e2 e3
                  obtain ⟨k0, k0f⟩ := owns_cellG hown hso (q * 2) (by omega)
                  replace k0 := k0.trans (Ey_get y.sn _ q hlq).1
                  rw [if_neg (Nat.lt_irrefl q)] at k0
                  obtain ⟨en, hen⟩ : ∃ en, en = (N p).E q := ⟨_, rfl⟩
                  rw [← hen] at k0
                  have hqn : (q : Int) < (y.sn : Int) := by omega
                  have hqq : IntKind.i64.wrap ((q : Int) + 1) = (q : Int) + 1 := by rw [IntKind.wrap_i64]; omega
                  have HEN := Hid.mk hen
                  have HSO := Hid.mk hso
                  have HLQ := Hid.mk hlq
                  rw [e1] at b5
                  clear hen e1 e2 e3 hso hown
                  by_cases h7 : 1 < en.ino
                  · have HWR : Hid (IntKind.i64.wrap (en.ino + a2) = en.ino + a2) := Hid.mk (by
                      have h8 := HOK.out.slot p HP.out q (by rw [HY.out] at hlq; exact hlq)
                      rw [← HEN.out] at h8
                      rw [IntKind.wrap_i64]; omega)
                    have HSS : Hid (∀ A : World, (∀ b, b ≠ gs → A.heap[b]? = wr.heap[b]?) → A.cell? ⟨bx, 5, none⟩ = some (.slice (some ⟨gs, 0, none⟩) y.sn y.sc)) := Hid.mk (fun A hA => by
                      obtain ⟨-, -, cs3, hk3⟩ := owns_kind HQ.out.own gs HSO.out
                      exact (World.cell?_of_block (w := wr) (hA bx (ty_ne HQ.out.box hk3 (by decide)))).trans b5)
                    have HKG : Hid (wr.drew.cell? ⟨gs, q * 2, none⟩ = some (.int .i64 en.ino) ∧ wr.drew.frozen? ⟨gs, q * 2, none⟩ = false) := Hid.mk ⟨k0, k0f⟩
                    go_upto_region 28 with fail
                    clear k0 k0f b5
                    refine wp_region_held_drew (S := fun (A : World) => A.cell? ⟨bx, 5, none⟩ = some (.slice (some ⟨gs, 0, none⟩) y.sn y.sc)) (by kernel_rfl) (HSS.out _ (fun _ _ => rfl)) (fun hH => ?_)
                    change wpAnyH Try.prog Region.Mode.any _ _ _ 14 _ _ _
                    refine takeH 0 143 (.pointer (some ⟨bx, 5, none⟩)) rfl (by kernel_rfl) (by kernel_rfl) (by kernel_rfl) (by kernel_rfl) (fun _ _ _ h => h) (by kernel_rfl) (fun w hw => by (try dsimp only at hw); go_simp) hH ?_
                    simp only [List.setIfInBounds_toArray, List.set_cons_zero, List.set_cons_succ]
                    refine takeH 1 144 (.slice (some ⟨gs, 0, none⟩) y.sn y.sc) rfl (by kernel_rfl) (by kernel_rfl) (by kernel_rfl) (by kernel_rfl) (fun _ _ _ h => h) (by kernel_rfl) (fun w hw => by (try dsimp only at hw); go_simp) hH ?_
                    simp only [List.setIfInBounds_toArray, List.set_cons_zero, List.set_cons_succ]
                    refine takeH 2 145 (.int .i64 (q : Nat)) rfl (by kernel_rfl) (by kernel_rfl) (by kernel_rfl) (by kernel_rfl) (fun _ _ _ h => h) (by kernel_rfl) (fun w hw => by (try dsimp only at hw); go_simp) hH ?_
                    simp only [List.setIfInBounds_toArray, List.set_cons_zero, List.set_cons_succ]
                    refine takeH 3 146 (.pointer (some ⟨bx, 5, none⟩)) rfl (by kernel_rfl) (by kernel_rfl) (by kernel_rfl) (by kernel_rfl) (fun _ _ _ h => h) (by kernel_rfl) (fun w hw => by (try dsimp only at hw); go_simp) hH ?_
                    simp only [List.setIfInBounds_toArray, List.set_cons_zero, List.set_cons_succ]
                    refine takeH 4 147 (.slice (some ⟨gs, 0, none⟩) y.sn y.sc) rfl (by kernel_rfl) (by kernel_rfl) (by kernel_rfl) (by kernel_rfl) (fun _ _ _ h => h) (by kernel_rfl) (fun w hw => by (try dsimp only at hw); go_simp) hH ?_
                    simp only [List.setIfInBounds_toArray, List.set_cons_zero, List.set_cons_succ]
                    refine takeH 5 148 (.int .i64 (q : Nat)) rfl (by kernel_rfl) (by kernel_rfl) (by kernel_rfl) (by kernel_rfl) (fun _ _ _ h => h) (by kernel_rfl) (fun w hw => by (try dsimp only at hw); go_simp) hH ?_
                    simp only [List.setIfInBounds_toArray, List.set_cons_zero, List.set_cons_succ]
                    refine takeH 6 149 (.pointer (some ⟨gs, q * 2, none⟩)) rfl (by kernel_rfl) (by kernel_rfl) (by kernel_rfl) (by kernel_rfl) (fun _ _ _ h => h) (by kernel_rfl) (fun w hw => by (try dsimp only at hw); go_simp) hH ?_
                    simp only [List.setIfInBounds_toArray, List.set_cons_zero, List.set_cons_succ]
                    refine takeH 7 150 (.pointer (some ⟨gs, q * 2, none⟩)) rfl (by kernel_rfl) (by kernel_rfl) (by kernel_rfl) (by kernel_rfl) (fun _ _ _ h => h) (by kernel_rfl) (fun w hw => by (try dsimp only at hw); go_simp) hH ?_
                    simp only [List.setIfInBounds_toArray, List.set_cons_zero, List.set_cons_succ]
                    refine takeH 9 152 (.int .i64 a2) rfl (by kernel_rfl) (by kernel_rfl) (by kernel_rfl) (by kernel_rfl) (fun _ _ _ h => h) (by kernel_rfl) (fun w hw => by (try dsimp only at hw); go_simp) hH ?_
                    simp only [List.setIfInBounds_toArray, List.set_cons_zero, List.set_cons_succ]
                    refine stepH 8 151 (.int .i64 en.ino) rfl (by kernel_rfl) (by kernel_rfl) (by kernel_rfl) (exec_ldI (x := .tmp 150) rfl (by kernel_rfl) HKG.out.1) hH ?_
                    simp only [List.setIfInBounds_toArray, List.set_cons_zero, List.set_cons_succ]
                    refine stepH 10 153 (.int .i64 (en.ino + a2)) rfl (by kernel_rfl) (by kernel_rfl) (by kernel_rfl) (exec_addI (x := .tmp 151) (y := .tmp 152) rfl (by kernel_rfl) (by kernel_rfl) HWR.out) hH ?_
                    simp only [List.setIfInBounds_toArray, List.set_cons_zero, List.set_cons_succ]
                    refine stepH 11 154 (.pointer (some ⟨gs, q * 2, none⟩)) rfl (by kernel_rfl) (by kernel_rfl) (by kernel_rfl) (by go_simp) hH ?_
                    simp only [List.setIfInBounds_toArray, List.set_cons_zero, List.set_cons_succ]
                    refine stepH 12 155 (.pointer (some ⟨gs, q * 2, none⟩)) rfl (by kernel_rfl) (by kernel_rfl) (by kernel_rfl) (by go_simp) hH ?_
                    simp only [List.setIfInBounds_toArray, List.set_cons_zero, List.set_cons_succ]
                    refine stepH_one 13 (by kernel_rfl) ?_
                    refine opH_store 13 (wr.drew.setCell ⟨gs, q * 2, none⟩ (.int .i64 (en.ino + a2))) rfl (by kernel_rfl) (by kernel_rfl) (exec_stI (p := .tmp 155) (x := .tmp 153) rfl (by kernel_rfl) (by kernel_rfl) HKG.out.1 HKG.out.2) (HSS.out _ (fun b hb => Below.heap_setCell _ _ _ _ hb)) ?_
                    refine wpAnyH_done (by kernel_rfl) ?_ _
                    go_wp2
                    refine ⟨⟨q + 1, HLQ.out, by push_cast; rfl, Hid.mk ?_⟩, by simp [Go.RowKit.intOf]; omega⟩
                    refine ((HQ.out.ino HSO.out HLQ.out (en.ino + a2)).say (fun j hj => ?_)).blw (Below.refl _ _).drew
                    rw [if_neg (Nat.lt_irrefl q)]
                    refine next_if (E := fun j => tE a2 ((N p).E j)) (F := (N p).E) ?_
                    show tE a2 ((N p).E q) = _
                    unfold tE tf
                    rw [← HEN.out, if_pos h7]
                  · go_wp2
                    refine ⟨⟨q + 1, HLQ.out, by push_cast; rfl, Hid.mk (HQ.out.say (fun j hj => ?_))⟩, by simp [Go.RowKit.intOf]; omega⟩
                    by_cases e : j = q
                    · subst e
                      rw [if_neg (Nat.lt_irrefl j), if_pos (Nat.lt_succ_self j), ← HEN.out]
                      unfold tE tf
                      rw [if_neg h7]
                    · by_cases e2 : j < q
                      · rw [if_pos e2, if_pos (by omega)]
                      · rw [if_neg e2, if_neg (by omega)]
                · obtain rfl : q = y.sn := by omega
                  obtain ⟨ov', X9, har, hown9, hg9, -⟩ := appendN_run wr w.heap.size (.slice oa k oc) k O y HQ.out.j.out HQ.out.j.below.size (by omega)
                  obtain ⟨na, nc, rfl, -, -⟩ := owns_val hown9
                  have HJ9 : Hid (TuJ w i b a2 N (k + 1) (.slice na (k + 1) nc) (O ++ [y]) X9) := Hid.mk (by
                    refine TuI.push ((HQ.out.say (G := (tN a2 (N (turnP i b k))).E) (fun j hj => by rw [if_pos hj, ← HPE.out]; rfl)).blw ((Below.refl _ wr).alloc (Nat.le_refl _) _)) (so := so) (sc := sc) ?_ hown9 hg9
                    rw [← HPE.out]; exact HY.out)
                  have HAR := Hid.mk har
                  simp only [noC] at HAR
                  have b0 := blk_cell HQ.out.box 0
                  have b1 := blk_cell HQ.out.box 1
                  have b2 := blk_cell HQ.out.box 2
                  have b3 := blk_cell HQ.out.box 3
                  have b4 := blk_cell HQ.out.box 4
                  simp at b0 b1 b2 b3 b4
                  clear har hown9 hg9
                  go_wp2_with (at_builtin; refine wpList_append_known rfl _ _ _ rfl _ _ _ _ rfl rfl HAR.out ?_; simp only [Act.put, List.setIfInBounds_toArray, List.set_cons_zero, List.set_cons_succ])
                  refine ⟨⟨k + 1, na, nc, O ++ [y], HLT.out, rfl, by push_cast; rfl, HJ9⟩, by simp [Go.RowKit.intOf]; omega⟩
          · obtain rfl : k = i := by omega
            have hb0 : k = 0 ∨ b < k := by
              by_cases e : k = 0
              · exact .inl e
              · have h1 := Int.emod_lt_of_pos a1 (show (0 : Int) < (k : Int) by omega)
                have h2 := HB.out
                exact .inr (by omega)
            obtain ⟨hm1, hm2, hm3⟩ := HK.out.made HN.out HOK.out hb0 (by omega) (by omega) HS.out
            have HR1 := Hid.mk (renumber_ans wr oa k oc (fun j => O.getD j noZ) hm1 hm2)
            have HR2 : Hid (∀ W, Below w.heap.size w W → Calls Try.prog 16 #[.slice ao k cc] W fun e w' => ∃ na x nc X, e = .returned (.slice na x nc) ∧ Below W.heap.size W w' ∧ AnsAt W.heap.size x (.slice na x nc) X w' ∧ IsRen k N x X) := Hid.mk (fun W hB => renumber_ans W ao k cc N (HN.out.blw hB) HS.out)
            have HTS : Hid (∀ x X y Y, IsRen k N y Y → IsRen k (fun j => O.getD j noZ) x X → y = x ∧ ∀ j, j < y → SameV (Y j) (X j)) := Hid.mk (fun x X y Y h1 h2 => turned_same HOK.out (by omega) hb0 hm3 h1 h2)
            have HM2 := Hid.mk hm2
            have BZ := Hid.mk HK.out.below
            clear hb0 hm1 hm2 hm3 HK
            go_wp2_with (first
              | (go_at_call 16; with_reducible refine HR1.out.mono ?_; rintro e W11 ⟨xa, x, xc, X, rfl, hB, hA, hR⟩; have HA1 := Hid.mk hA; have HX1 := Hid.mk hR; replace BZ := Hid.mk (BZ.out.trans (hB.mono BZ.out.size)); clear hB hA hR HR1)
              | (go_at_call 16; with_reducible refine (HR2.out _ BZ.out).mono ?_; rintro e W12 ⟨ya, y, yc, Y, rfl, hB, hA, hR⟩; have HX2 := Hid.mk hR; have HA2 := Hid.mk hA; have HA3 := Hid.mk (HA1.out.blw hB); replace BZ := Hid.mk (BZ.out.trans (hB.mono BZ.out.size)); clear hB hA hR HR2)
              | (go_at_call 18; obtain ⟨rfl, hv⟩ := HTS.out _ _ _ _ HX2.out HX1.out; have hc := wsame_any W12 xa y xc ya y yc X Y HA3.out.NoAt HA2.out.NoAt (by have := (HX1.out.sml HM2.out).le; omega); rw [sameL_same (fun j hj => (hv j hj).symm)] at hc; have HC := Hid.mk hc; clear hv hc; refine HC.out.mono ?_; rintro e W13 ⟨rfl, hB⟩; replace BZ := Hid.mk (BZ.out.trans (hB.mono BZ.out.size)); clear hB HC))
            refine bodyPost_ret (results_tmp rfl _ _ _) rfl ?_
            exact ⟨rfl, BZ.out⟩
end Go.Proofs.Ytbahbhaoimabdaa
