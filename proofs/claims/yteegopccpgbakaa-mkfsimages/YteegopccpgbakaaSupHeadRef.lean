/-
  PackHead of the reference.
-/
import Derived.Test.YteegopccpgbakaaSupBitsRef
import Derived.Lib.SmallJoins
namespace Go.Proofs.Yteegopccpgbakaa
open Go Go.Proofs Go.RowKit Go.Shelf
namespace Sup
/-- append(b, x...), b a row of one's own. -/
theorem append_row_run (W : World) (B : Nat) (v : Value) (n : Nat) (xs : List Int) (hown : W.ownsRow B 5 1 v n (By xs)) (hB : B ≤ W.heap.size) (a : Addr) (m c : Nat) (ys : List Int) (hb : BAt W (some a) m ys) (hn : n + m ≤ 16777216) :
    ∃ v' W', (Builtin.append_ #[26, 26] 26 #[v, .slice (some a) m c]).run Try.prog W = .ok v' W' ∧ W'.ownsRow B 5 1 v' (n + m) (By (xs ++ ys)) ∧ W.grownBy W' v.ownBlock := by
  obtain ⟨i0, hi, hz0, hz1, hz2⟩ := info5p
  obtain ⟨v3, W3, hr, hown3, hg3, _⟩ := run_append_own (P := Try.prog) W B 26 26 5 i0 (.int .u8 0) 1 1 Try.underlying26 hi hz0 hz1 hz2 rfl (by decide) v n (By xs) hown a m c (By ys) (by rw [By_length, hb.1, Nat.mul_one]) (fun j u hj => by
      have hjl := (List.getElem?_eq_some_iff.1 hj).1
      rw [By_length] at hjl
      rw [By_get ys j hjl] at hj
      obtain ⟨a', e, hc⟩ := hb.at j (by rw [← hb.1]; exact hjl)
      cases e
      rw [hc]
      exact hj) (By_one ys) (by unfold maxLen; omega) (by omega) hB
  have e : By xs ++ By ys = By (xs ++ ys) := by simp [By]
  rw [e] at hown3
  exact ⟨v3, W3, hr, hown3, hg3⟩
/-- append(append(b, x...), y...): its two runs. -/
theorem append_two (W : World) (B L : Nat) (v : Value) (n : Nat) (xs : List Int) (hown : W.ownsRow B 5 1 v n (By xs)) (hB : B ≤ W.heap.size) (hv : ∀ k, v.ownBlock = some k → k < L) (a1 a2 : Addr) (m1 m2 c1 c2 : Nat) (ys zs : List Int) (h1 : BAt W (some a1) m1 ys) (h2 : BAt W (some a2) m2 zs) (hL : L ≤ a2.block) (hn : n + m1 + m2 ≤ 16777216) :
    ∃ v1 W1 v2 W2, (Builtin.append_ #[26, 26] 26 #[v, .slice (some a1) m1 c1]).run Try.prog W = .ok v1 W1 ∧ (Builtin.append_ #[26, 26] 26 #[v1, .slice (some a2) m2 c2]).run Try.prog W1 = .ok v2 W2 ∧ W2.ownsRow B 5 1 v2 (n + m1 + m2) (By (xs ++ ys ++ zs)) ∧ Below B W W2 := by
  obtain ⟨v1, W1, r1, o1, g1⟩ := append_row_run W B v n xs hown hB a1 m1 c1 ys h1 (by omega)
  have hb1 : Below B W W1 := (Below.refl _ W).grown g1 hB (fun k hk => (hown.lt k hk).1)
  have h2' : BAt W1 (some a2) m2 zs := h2.only ((Only.refl (fun k => v.ownBlock = some k) W).grown g1 (fun k hk => .inl hk)) (fun a e _ hs => by cases e; have := hv _ hs; omega)
  obtain ⟨v2, W2, r2, o2, g2⟩ := append_row_run W1 B v1 (n + m1) (xs ++ ys) o1 (Nat.le_trans hB hb1.size) a2 m2 c2 zs h2' (by omega)
  exact ⟨v1, W1, v2, W2, r1, r2, o2, hb1.grown g2 (Nat.le_trans hB hb1.size) (fun k hk => (o1.lt k hk).1)⟩
theorem cg_src (w : World) (B : Nat) : Src (w.alloc (.cells #[.int .u8 67, .int .u8 71] 5 (2, 3))) B (.slice (some ⟨w.heap.size, 0, none⟩) 2 2) 2 [67, 71] := by
  refine .inr ⟨_, rfl, rfl, fun _ => ⟨_, rfl, by simp, fun i hi => ?_⟩⟩
  rw [add_at, blk_cell (blk_new w _), Nat.zero_add]
  match i, hi with
  | 0, _ => rfl
  | 1, _ => rfl
set_option maxRecDepth 100000 in
set_option maxHeartbeats 4000000 in
theorem packhead_any (w : World) (G I D q0 : Int) (hg : good G I D = true) (hk0 : 0 ≤ q0) (hk1 : q0 < 65536) (ao bo : Option Addr) (n c m d : Nat) (xs ys : List Int) (hxa : BAt w ao n xs) (hya : BAt w bo m ys) (hxb : ∀ x ∈ xs, 0 ≤ x ∧ x ≤ 255) (hyb : ∀ x ∈ ys, 0 ≤ x ∧ x ≤ 255) :
    Calls Try.prog 16 #[geo G I D, .int .i64 q0, .slice ao n c, .slice bo m d] w fun e w' => ∃ v', e = .returned v' ∧ w'.ownsRow w.heap.size 5 1 v' 1024 (By (headL q0 I D xs ys)) ∧ Below w.heap.size w w' := by
  have HG := Hid.mk hg
  have hgb := good_iff.1 hg
  have HNI : Hid ((nI I : Int) = 16 * I ∧ (nD D : Int) = D ∧ nI I ≤ 64 ∧ nD D ≤ 1000) := Hid.mk (by unfold nI nD; omega)
  have hw1 : IntKind.i64.wrap (16 * I) = 16 * I := by rw [IntKind.wrap_i64]; omega
  have HXA : Hid (∀ W, Below w.heap.size w W → BAt W ao n xs) := Hid.mk (fun W hB => hxa.new hB (Nat.le_refl _))
  have HYA : Hid (∀ W, Below w.heap.size w W → BAt W bo m ys) := Hid.mk (fun W hB => hya.new hB (Nat.le_refl _))
  have HXB := Hid.mk hxb
  have HYB := Hid.mk hyb
  have hbL : Below w.heap.size w ((w.alloc (.cells #[.int .i64 G, .int .i64 I, .int .i64 D] 23)).alloc (.cells #[.int .u8 67, .int .u8 71] 5 (2, 3))) := ((Below.refl _ w).alloc (Nat.le_refl _) _).alloc (by simp) _
  have HBL := Hid.mk hbL
  have HGL : Hid (GAt w.heap.size G I D ((w.alloc (.cells #[.int .i64 G, .int .i64 I, .int .i64 D] 23)).alloc (.cells #[.int .u8 67, .int .u8 71] 5 (2, 3)))) := Hid.mk ((GAt.new w G I D).below ((Below.refl _ _).alloc (Nat.le_refl _) _) (by simp))
  have hsrc := cg_src (w.alloc (.cells #[.int .i64 G, .int .i64 I, .int .i64 D] 23)) (w.alloc (.cells #[.int .i64 G, .int .i64 I, .int .i64 D] 23)).heap.size
  have hput := rput_any ((w.alloc (.cells #[.int .i64 G, .int .i64 I, .int .i64 D] 23)).alloc (.cells #[.int .u8 67, .int .u8 71] 5 (2, 3))) (w.alloc (.cells #[.int .i64 G, .int .i64 I, .int .i64 D] 23)).heap.size _ 2 2 [67, 71] q0 hsrc (by simp) (by omega) (by omega) (by omega) hk0 (by omega)
  rw [show (w.alloc (.cells #[.int .i64 G, .int .i64 I, .int .i64 D] 23)).heap.size = w.heap.size + 1 by simp] at hput
  have HP := Hid.mk hput
  have hsz : ((w.alloc (.cells #[.int .i64 G, .int .i64 I, .int .i64 D] 23)).alloc (.cells #[.int .u8 67, .int .u8 71] 5 (2, 3))).heap.size = w.heap.size + 2 := by simp
  have hcv := Joins.run_convert_bytes_const_at (P := Try.prog) (w.alloc (.cells #[.int .i64 G, .int .i64 I, .int .i64 D] 23)) 26 5 #[.int .u8 67, .int .u8 71] 2 2 (w.heap.size + 1) (by simp) Try.underlying26 Try.underlying5
  clear hg hxa hya hxb hyb hbL hsrc hput
  go_enter Try.func16, Try.ntmps16
  go_wp2_with (first
    | (go_at_call 31; refine HP.out.mono ?_; rintro e w1 ⟨v1, rfl, ho1, hb1⟩; have HO1 := Hid.mk ho1; have HB1 := Hid.mk (HBL.out.trans (hb1.mono (by omega))); have HG1 := Hid.mk (HGL.out.below hb1 (by omega)); have hs1 : w.heap.size + 2 ≤ w1.heap.size := by have := hb1.size; omega
       have HS1 := Hid.mk hs1; clear ho1 hb1 hsz hs1)
    | (go_at_call 32; refine (fill_any _ _ _ 4 16 _ HO1.out (Nat.le_trans (by omega) HS1.out) (by omega) (by omega) (by omega)).mono ?_; rintro e w2 ⟨v2, rfl, ho2, hb2⟩; have HO2 := Hid.mk ho2; have HB2 := Hid.mk (HB1.out.trans (hb2.mono (by omega))); have HG2 := Hid.mk (HG1.out.below hb2 (by omega)); clear HG1 HB1; have HG1 := HG2; have HBB := HB2; have HMK := Hid.mk (make_run w2 48 (by omega)); have HB2s := Hid.mk hb2.size; clear ho2 hb2 HG2 HB2)
    | (at_make; refine wpList_make_known rfl _ _ 26 rfl _ _ _ _ rfl rfl HMK.out ?_))
  go_loopw [10, 11] (fun x i wr => ∃ k : Nat, k ≤ (nI I) ∧ i = .int .i64 k ∧ (∃ a cx, x = .slice (some a) 48 cx ∧ BAt wr (some a) 48 (fillW xs 48 k) ∧ w2.heap.size ≤ a.block) ∧ Below w2.heap.size w2 wr) (fun _ i _ => (nI I) - (intOf i).toNat)
  case atStart =>
    exact ⟨0, Nat.zero_le _, rfl, ⟨⟨w2.heap.size, 0, none⟩, 48, rfl, RAt.full (blk_new w2 _) (zeros_length _), Nat.le_refl _⟩, (Below.refl _ w2).alloc (Nat.le_refl _) _⟩
  case round =>
    obtain ⟨k, hk, rfl, ⟨a, cx, rfl, hba, hab⟩, hbw⟩ := hrel
    obtain ⟨c0, c1, c2⟩ := (HG1.out.below hbw HG1.out.lt).g3
    by_cases hlt : k < (nI I)
    · have hlti : (k : Int) < 16 * I := by have := HNI.out; omega
      have hki : I64 (k : Int) := ⟨by omega, by have := HNI.out; omega⟩
      have HGET := Hid.mk (refget_any wr (ao) n c xs ((fun W hB => HXA.out W (HBB.out.trans (hB.mono HBB.out.size))) wr hbw) HXB.out (k : Int) hki)
      have HWI := Hid.mk (refwith_any wr (some a) 48 cx (k : Int) hki (getI xs (k : Int)) _ hba (by simp) (by omega))
      have HBW := Hid.mk hbw
      have HFS : Hid (withI (fillW xs 48 k) (k : Int) (getI xs (k : Int)) = fillW xs 48 (k + 1)) := Hid.mk rfl
      clear hba hki hbw
      generalize getI xs (k : Int) = on at *
      go_wp2_with (first
        | (go_at_call 34; refine HGET.out.mono ?_; rintro e w3 ⟨rfl, hw⟩; subst w3)
        | (go_at_call 33; refine HWI.out.mono ?_; rintro e w3 ⟨v3, rfl, ho3, hb3⟩; obtain ⟨ao3, c3, rfl, hba3, hbl3, hne3⟩ := owns_BAt ho3; obtain ⟨a3, rfl⟩ := Option.ne_none_iff_exists'.1 (hne3 (by omega)); have HA3 := Hid.mk hba3; have HL3 := Hid.mk (hbl3 a3 rfl).1; have HB3 := Hid.mk hb3; clear ho3 hba3 hbl3 hne3 hb3))
      go_roundw
      case rel => exact ⟨k + 1, by omega, by go_num, ⟨a3, c3, rfl, by rw [← HFS.out]; exact HA3.out, Nat.le_trans HBW.out.size HL3.out⟩, HBW.out.trans (HB3.out.mono HBW.out.size)⟩
      case measure => simp [intOf]; omega
    · have hge : 16 * I ≤ (k : Int) := by have := HNI.out; omega
      obtain rfl : k = (nI I) := by omega
      have HBW := Hid.mk hbw
      have HFA := Hid.mk hba
      have HAB := Hid.mk hab
      clear hba hbw hab hlt hk
      have HGN := Hid.mk (HG1.out.below HBW.out HG1.out.lt)
      have HBN := Hid.mk (HBB.out.trans (HBW.out.mono HBB.out.size))
      have HMK2 := Hid.mk (make_run wr 960 (by omega))
      have HW3 := Hid.mk HBW.out.size
      have HBX0 := HBW
      clear HBB HG1 HBW HMK
      have HG1 := HGN
      have HBB := HBN
      have HFA1 := HFA
      clear HGN HBN HFA HAB
      obtain ⟨W3, hW3⟩ : ∃ W3, W3 = wr := ⟨_, rfl⟩
      rw [← hW3] at HG1 HBB HFA1 HMK2 HW3 HBX0 c0 c1 c2 ⊢
      clear hW3
      obtain ⟨a1, ha1⟩ : ∃ a1, a1 = a := ⟨_, rfl⟩
      rw [← ha1] at HFA1 ⊢
      clear ha1
      obtain ⟨cx1, hcx1⟩ : ∃ cx1, cx1 = cx := ⟨_, rfl⟩
      rw [← hcx1] at ⊢
      clear hcx1
      go_wp2_with (at_make; refine wpList_make_known rfl (.const (.int .i64 960)) (.const (.int .i64 960)) 26 rfl (.int .i64 960) (.int .i64 960) _ _ rfl rfl HMK2.out ?_)
      clear c0 c1 c2
      go_loopw [12, 13] (fun x i wr => ∃ k : Nat, k ≤ (nD D) ∧ i = .int .i64 k ∧ (∃ a cx, x = .slice (some a) 960 cx ∧ BAt wr (some a) 960 (fillW ys 960 k) ∧ W3.heap.size ≤ a.block) ∧ Below W3.heap.size W3 wr) (fun _ i _ => (nD D) - (intOf i).toNat)
      case atStart =>
        exact ⟨0, Nat.zero_le _, rfl, ⟨⟨W3.heap.size, 0, none⟩, 960, rfl, RAt.full (blk_new W3 _) (zeros_length _), Nat.le_refl _⟩, (Below.refl _ W3).alloc (Nat.le_refl _) _⟩
      case round =>
        obtain ⟨k, hk, rfl, ⟨a, cx, rfl, hba, hab⟩, hbw⟩ := hrel
        obtain ⟨c0, c1, c2⟩ := (HG1.out.below hbw HG1.out.lt).g3
        by_cases hlt : k < (nD D)
        · have hlti : (k : Int) < D := by have := HNI.out; omega
          have hki : I64 (k : Int) := ⟨by omega, by have := HNI.out; omega⟩
          have HGET := Hid.mk (refget_any wr (bo) m d ys ((fun W hB => HYA.out W (HBB.out.trans (hB.mono HBB.out.size))) wr hbw) HYB.out (k : Int) hki)
          have HWI := Hid.mk (refwith_any wr (some a) 960 cx (k : Int) hki (getI ys (k : Int)) _ hba (by simp) (by omega))
          have HBW := Hid.mk hbw
          have HFS : Hid (withI (fillW ys 960 k) (k : Int) (getI ys (k : Int)) = fillW ys 960 (k + 1)) := Hid.mk rfl
          clear hba hki hbw
          generalize getI ys (k : Int) = on at *
          go_wp2_with (first
            | (go_at_call 34; refine HGET.out.mono ?_; rintro e w3 ⟨rfl, hw⟩; subst w3)
            | (go_at_call 33; refine HWI.out.mono ?_; rintro e w3 ⟨v3, rfl, ho3, hb3⟩; obtain ⟨ao3, c3, rfl, hba3, hbl3, hne3⟩ := owns_BAt ho3; obtain ⟨a3, rfl⟩ := Option.ne_none_iff_exists'.1 (hne3 (by omega)); have HA3 := Hid.mk hba3; have HL3 := Hid.mk (hbl3 a3 rfl).1; have HB3 := Hid.mk hb3; clear ho3 hba3 hbl3 hne3 hb3))
          go_roundw
          case rel => exact ⟨k + 1, by omega, by go_num, ⟨a3, c3, rfl, by rw [← HFS.out]; exact HA3.out, Nat.le_trans HBW.out.size HL3.out⟩, HBW.out.trans (HB3.out.mono HBW.out.size)⟩
          case measure => simp [intOf]; omega
        · have hge : D ≤ (k : Int) := by have := HNI.out; omega
          obtain rfl : k = (nD D) := by omega
          have HBW := Hid.mk hbw
          have HFA := Hid.mk hba
          have HAB := Hid.mk hab
          clear hba hbw hab hlt hk
          have HBX := Hid.mk (HBX0.out.trans (HBW.out.mono HBX0.out.size))
          have ho2 : wr.ownsRow (w.heap.size + 1) 5 1 v2 16 (By ([67, 71] ++ leL q0 2 ++ List.replicate (16 - 4) 0)) := owns_at HO2.out (fun k hk => HBX.out.block k (HO2.out.lt k hk).2)
          obtain ⟨x1, X1, x2, X2, r1, r2, o2, b2⟩ := append_two wr (w.heap.size + 1) w2.heap.size v2 16 _ ho2 (by have h1 := HS1.out; have h2 := HB2s.out; have h3 := HBX.out.size; omega) (fun k hk => (HO2.out.lt k hk).2) a1 a 48 960 cx1 cx _ _ (HFA1.out.new HBW.out (Nat.le_refl _)) HFA.out (Nat.le_trans HW3.out HAB.out) (by omega)
          have HR1 := Hid.mk r1
          have HR2 := Hid.mk r2
          have HO3 := Hid.mk o2
          have HB3 := Hid.mk ((HBB.out.trans (HBW.out.mono HBB.out.size)).trans (b2.mono (by omega)))
          clear r1 r2 o2 b2 ho2
          go_wp2_with (first
            | (at_builtin; refine wpList_append_known rfl (.tmp 46) (.tmp 47) 26 rfl v2 (.slice (some a1) 48 cx1) _ _ rfl rfl HR1.out ?_)
            | (at_builtin; refine wpList_append_known rfl (.tmp 48) (.tmp 49) 26 rfl x1 (.slice (some a) 960 cx) _ _ rfl rfl HR2.out ?_))
          go_ret
          refine ⟨_, rfl, ?_, HB3.out⟩
          have h := HO3.out
          rw [fill_mask _ _ _ HXB.out (by have := HNI.out; omega), fill_mask _ _ _ HYB.out (by have := HNI.out; omega)] at h
          exact owns_base h (by omega)
end Sup
end Go.Proofs.Yteegopccpgbakaa
