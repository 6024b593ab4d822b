/-
  DiskImages, walked: it returns true for every row of bytes and every number, and nothing that lay has turned.
-/
import Derived.Test.YtochgjajlojfeaaBytes
import Derived.OpenShut
import Derived.Test.YtochgjajlojfeaaOrders
namespace Go.Proofs.Ytochgjajlojfeaa
open Go Go.Proofs Go.RowKit Go.Shelf

set_option maxRecDepth 100000 in
set_option maxHeartbeats 2000000 in
theorem images_long (ao : Option Addr) (n c : Nat) (block : Int) (w : World) (hn : 60000 < n) (hn2 : n ≤ 9223372036854775807) :
    Calls Try.prog 4 #[.slice ao n c, .int .i64 block] w fun e w' => e = .returned (.bool true) ∧ Below w.heap.size w w' := by
  go_enter Try.func4, Try.ntmps4
  go_wp2_with (go_at_call 7; refine (alive_any w).mono ?_; rintro e w1 ⟨rfl, hb⟩)
  go_ret
  exact ⟨rfl, hb⟩

theorem xor_bound (v : Int) : 0 ≤ bits BinOp.xor IntKind.u8 v 255 ∧ bits BinOp.xor IntKind.u8 v 255 ≤ 255 := bounds_u8 (wf_bits _ _ _ _)

theorem ofB_short {xs : List Int} {n : Nat} (hx : xs.length = n) (hn : n ≤ 60000) : (ofB xs).img = xs.take (1024 * (n / 1024)) ∧ (ofB xs).img.length = 1024 * (n / 1024) ∧ (ofB xs).dead = false ∧ (ofB xs).log = [] := by
  have h1 : (ofB xs).img = xs.take (1024 * (n / 1024)) := by
    unfold ofB
    rw [hx]
    show xs.take (1024 * min (n / 1024) 20000) = _
    rw [Nat.min_eq_left (by omega)]
  exact ⟨h1, by rw [h1, List.length_take, hx]; omega, rfl, rfl⟩

set_option maxRecDepth 100000 in
set_option maxHeartbeats 8000000 in
theorem images_short_yes (ao : Option Addr) (n c : Nat) (xs : List Int) (q : Nat) (w : World) (hn : n ≤ 60000) (hnc : n ≤ c) (h : BAt w ao n xs) (hnone : ao = none → n = 0 ∧ c = 0) (hx : ∀ x ∈ xs, 0 ≤ x ∧ x ≤ 255) (hb1 : q < n / 1024) :
    Calls Try.prog 4 #[.slice ao n c, .int .i64 (q : Int)] w fun e w' => e = .returned (.bool true) ∧ Below w.heap.size w w' := by
  have HX := Hid.mk hx
  have HN := Hid.mk hnone
  clear hx hnone
  obtain ⟨hi1, hi2, hi3, hi4⟩ := ofB_short h.1 hn
  have hBB : (hasB (ofB xs) q && !(ofB xs).dead) = true := by
    rw [hi3]
    unfold hasB
    rw [hi2]
    simp
    omega
  generalize hS : ofB xs = S at *
  have HS := Hid.mk hS
  have HI1 := Hid.mk hi1
  have HI2 := Hid.mk hi2
  have HI4 := Hid.mk hi4
  have HBB := Hid.mk hBB
  clear hS hi1 hi2 hi3 hi4 hBB
  have hb1' : decide ((q : Int) < (n : Int) / 1024) = true := by simp; omega
  go_enter Try.func4, Try.ntmps4
  go_wp2_with fail
  refine (alive_any w).mono ?_
  rintro e w1 ⟨rfl, hb⟩
  have h1 : BAt w1 ao n xs := h.only (Only.of_new (fun _ => False) hb) (fun _ _ _ x => x)
  have HB1 := Hid.mk hb
  obtain ⟨v', w2, hrun, hown, hg⟩ := append_nil_run w1 ao n c xs h1 (by omega) HN.out
  have H1 := Hid.mk h1
  have HR := Hid.mk hrun
  have HAL : Hid (∀ a, ao = some a → 0 < n → a.block < w1.heap.size) := fun a e h0 => by
    obtain ⟨a', e', hl, _⟩ := H1.out.2 h0
    rw [e] at e'
    cases e'
    exact hl
  clear h h1 hb hrun
  have HG := Hid.mk hg
  obtain ⟨oo, oc, rfl, hO2, hO3, hO4⟩ := owns_BAt hown
  have HY := Hid.mk (owns_bytey hown HX.out)
  have HO2 := Hid.mk hO2
  have HO3 := Hid.mk hO3
  have HO4 := Hid.mk hO4
  have HOL : Hid (∀ a, oo = some a → w1.heap.size ≤ a.block ∧ a.block < w2.heap.size) := fun a e => by
    obtain ⟨cur, hb, _⟩ := HY.out a.block (HO3.out a e).2.1
    exact ⟨(HO3.out a e).1, lt_of_block hb⟩
  clear hown hO2 hO3 hO4 hg
  have hnd : decide ((60000 : Int) < (n : Int)) = false := by simp; omega
  go_wp2_with (at_builtin; refine wpList_append_known rfl _ _ 27 rfl _ _ _ _ rfl rfl HR.out ?_)
  have HOF := of_any w2 oo n oc xs HO2.out.1 (by omega) HO2.out.2
  rw [HS.out] at HOF
  refine HOF.mono ?_
  clear HOF
  rintro e w3 ⟨d, rfl, hd3, hD3, hB3⟩
  have HD3 := Hid.mk hD3
  have HB3 := Hid.mk hB3
  clear hD3 hB3
  have HY3 : Hid (∀ a, oo = some a → Bytey w3 a.block n) := fun a e => by
    obtain ⟨cur, hb, hc⟩ := HY.out a.block (HO3.out a e).2.1
    exact ⟨cur, (HB3.out.block _ (lt_of_block hb)).trans hb, hc⟩
  go_wp2_with fail
  go_loopw [8] (fun i wr => ∃ k : Nat, k ≤ n ∧ i = .int .i64 k ∧ (∀ a, oo = some a → Bytey wr a.block n) ∧ Only (fun j => ∃ a, oo = some a ∧ j = a.block) w3 wr) (fun i _ => n - (intOf i).toNat)
  case atStart => exact ⟨0, by omega, rfl, HY3.out, Only.refl _ _⟩
  case round =>
    obtain ⟨k, hk, rfl, hby, hon⟩ := hrel
    by_cases hlt : k < n
    · obtain ⟨a, rfl⟩ : ∃ a, oo = some a := Option.ne_none_iff_exists'.1 (HO4.out (by omega))
      obtain ⟨_, _, e1, e2⟩ := HO3.out a rfl
      obtain ⟨g, ao', sp⟩ := a
      simp at e1 e2
      subst e1 e2
      obtain ⟨v, hv0, hv1, hc, hf⟩ := (hby _ rfl).at k hlt
      dsimp only at hc hf
      have HBY := Hid.mk (hby _ rfl)
      have HON := Hid.mk hon
      clear hby hon HY HY3 HO2 HO3 HO4 HOL
      go_wp2
      go_roundw
      case rel =>
        have hbd := xor_bound v
        exact ⟨k + 1, by omega, by go_num, fun a e => by cases e; exact HBY.out.set k _ hbd.1 hbd.2, HON.out.setCell (p := ⟨g, k, none⟩) (.inl ⟨_, rfl, rfl⟩) _⟩
      case measure => (clear HBY HON HD3 HB3 HR; simp [intOf]; omega)
    · obtain rfl : n = k := by omega
      have HO5 := Hid.mk hon
      have hD4 : DiskAt (fun j => w2.heap.size ≤ j) wr d S := HD3.out.only hon (fun j hj hF => by
        rintro ⟨a, e, rfl⟩
        have := (HOL.out a e).2
        omega)
      have hbr : BAt wr ao n xs := by
        rcases Nat.eq_zero_or_pos n with h0 | h0
        · exact ⟨H1.out.1, fun h => by omega⟩
        · exact ((H1.out.only ((Only.refl (fun _ => False) w1).grown HG.out (by simp)) (fun _ _ _ x => x)).only (Only.of_new (fun _ => False) HB3.out) (fun _ _ _ x => x)).only hon (fun a e hl => by
            rintro ⟨b, e2, e3⟩
            have := (HOL.out b e2).1
            have := HAL.out a e h0
            omega)
      have HBR := Hid.mk hbr
      have HD4 := Hid.mk hD4
      have HRD := read_any _ wr d S hD4 (by rw [HI2.out]; omega) q
      rw [HBB.out] at HRD
      clear hby hon hD4 hbr HY HY3 HO2 HO3 HO4 HR
      go_wp2_with fail
      refine HRD.mono ?_
      clear HRD
      rintro e w4 ⟨xo, xn, xc, rfl, hB4, hxo, hyes, hno⟩
      have HB4 := Hid.mk hB4
      have HYES := Hid.mk hyes
      have HNO := Hid.mk hno
      have HXO := Hid.mk hxo
      clear hB4 hyes hno hxo
      have hD5 := (HD4.out.only (Only.of_new (fun _ => False) HB4.out) (fun _ _ _ x => x)).mono (H := fun j => j < w4.heap.size) (fun k hk _ => hk.lt)
      have HIM := image_any _ w4 d S hD5 (by rw [HI2.out]; omega)
      rw [HI2.out] at HIM
      have HD5 := Hid.mk hD5
      clear hD5
      have HBR4 := Hid.mk (HBR.out.only (Only.of_new (fun _ => False) HB4.out) (fun _ _ _ x => x))
      have HW4 : Hid (Below w.heap.size w w4) := by
        have s1 := HB1.out.size
        have s2 := HG.out.size
        have s3 := HB3.out.size
        have sr := HO5.out.size
        exact (HB1.out.grown HG.out s1 (by simp)).trans ((HB3.out.mono (by omega)).trans ((HO5.out.below (by omega) (fun k e => by
          obtain ⟨a, e1, rfl⟩ := e
          have := (HOL.out a e1).1
          omega)).trans (HB4.out.mono (by omega))))
      go_wp2_with fail
      refine HIM.mono ?_
      clear HIM
      rintro e w5 ⟨v5, rfl, hown5, hnn5, hB5⟩
      have HB5 := Hid.mk hB5
      have hby5 := owns_bytey hown5 (fun x hx => HX.out x (by rw [HI1.out] at hx; exact List.mem_of_mem_take hx))
      obtain ⟨g5, cap5, rfl, hg5, hlt5, hcap5, hlen5, hcell5⟩ := owns_bytes hown5 hnn5
      have HY5 := Hid.mk (hby5 g5 rfl)
      clear hown5 hnn5 hB5 hby5 hcell5 hlen5
      go_wp2_with fail
      go_loopw [14] (fun i wr => ∃ k : Nat, k ≤ 1024 * (n / 1024) + 99 ∧ i = .int .i64 k ∧ Bytey wr g5 (1024 * (n / 1024)) ∧ Only (fun j => j = g5) w5 wr) (fun i _ => 1024 * (n / 1024) + 100 - (intOf i).toNat)
      case atStart => exact ⟨0, by omega, rfl, HY5.out, Only.refl _ _⟩
      case round =>
        obtain ⟨k, hk5, rfl, hby, hon⟩ := hrel
        by_cases hlt6 : k < 1024 * (n / 1024)
        · obtain ⟨v, hv0, hv1, hc, hf⟩ := hby.at k hlt6
          have HBY := Hid.mk hby
          have HON := Hid.mk hon
          clear hby hon
          go_wp2
          go_roundw
          case rel =>
            have hbd := xor_bound v
            exact ⟨k + 100, by omega, by go_num, HBY.out.set k _ hbd.1 hbd.2, HON.out.setCell (p := ⟨g5, k, none⟩) (.inl rfl) _⟩
          case measure => (clear HBY HON HD3 HB3; simp [intOf]; omega)
        · have HON := Hid.mk hon
          clear hby hon
          obtain ⟨hxn, hxown, hxne⟩ := HYES.out trivial
          subst hxn
          obtain ⟨xa, rfl⟩ := Option.ne_none_iff_exists'.1 hxne
          have hbr5 : BAt wr ao n xs := (HBR4.out.only (Only.of_new (fun _ => False) HB5.out) (fun _ _ _ x => x)).only HON.out (fun a e hl hg => by
            obtain ⟨a', e', hl', _⟩ := HBR4.out.2 (by omega)
            rw [e] at e'
            cases e'
            omega)
          obtain ⟨ba, rfl, hbl, hbc⟩ := hbr5.2 (by omega)
          have s5 := HB5.out.size
          have hX : (S.img.drop (1024 * (q : Int).toNat)).take 1024 = (xs.drop (1024 * q)).take 1024 := by
            rw [HI1.out, Int.toNat_natCast, List.drop_take, List.take_take, Nat.min_eq_left (by omega)]
          rw [hX] at hxown
          have hXl : ((xs.drop (1024 * q)).take 1024).length = 1024 := by
            have := hbr5.1
            simp
            omega
          have hxb : BAt wr (some xa) 1024 ((xs.drop (1024 * q)).take 1024) := by
            obtain ⟨ao', c', e', hb', _, _⟩ := owns_BAt hxown
            cases e'
            refine (hb'.only (Only.of_new (fun _ => False) HB5.out) (fun _ _ _ x => x)).only HON.out (fun a e hl hg => ?_)
            cases e
            obtain ⟨xa', ex, hl2, _⟩ := hb'.2 (by omega)
            cases ex
            omega
          have hbb : BAt wr (some (ba.add (1024 * q))) 1024 ((xs.drop (1024 * q)).take 1024) :=
            ⟨hXl, fun _ => ⟨_, rfl, by rw [add_block]; exact hbl, fun i hi => by rw [add_add, getD_window _ _ _ _ hi]; exact hbc _ (by omega)⟩⟩
          have hD6 := (HD5.out.only (Only.of_new (fun _ => False) HB5.out) (fun _ _ _ x => x)).only HON.out (fun j hj hF hg => by omega)
          have hD7 : DiskAt (fun j => j < w4.heap.size) wr.drew d S := hD6.at (fun _ _ => rfl)
          have HBL := blocks_any _ wr.drew d S hD7 (by rw [HI2.out]; omega)
          rw [HI2.out, Nat.mul_div_cancel_left _ (by omega)] at HBL
          have hnq : ((n / 1024 : Nat) : Int) = (n : Int) / 1024 := by omega
          rw [hnq] at HBL
          clear hnq
          have HBL := Hid.mk HBL
          obtain ⟨SX, hSX⟩ : ∃ SX, strOfNums ((xs.drop (1024 * q)).take 1024) = SX := ⟨_, rfl⟩
          have hxb2 := hxb
          clear hX hXl hxown hxb hD6
          have hi4 := HI4.out
          have o1 : (1024 * (q : Int)).toNat = 1024 * q := by omega
          have o2 : (1024 * (q : Int) + 1024).toNat - (1024 * (q : Int)).toNat = 1024 := by omega
          have o3 : (1024 * ((n : Int) / 1024)).toNat = 1024 * (n / 1024) := by omega
          have hbi : BAt wr (some ba) (1024 * (n / 1024)) S.img := by
            refine ⟨HI2.out, fun _ => ⟨ba, rfl, hbl, fun i hi => ?_⟩⟩
            rw [hbc i (by omega), HI1.out]
            simp [List.getD, hi]
          have k1 : IntKind.i64.wrap (1024 * (q : Int)) = 1024 * (q : Int) := by rw [IntKind.wrap_i64]; omega
          have k2 : IntKind.i64.wrap (1024 * (q : Int) + 1024) = 1024 * (q : Int) + 1024 := by rw [IntKind.wrap_i64]; omega
          have k3 : IntKind.i64.wrap (1024 * ((n : Int) / 1024)) = 1024 * ((n : Int) / 1024) := by rw [IntKind.wrap_i64]; omega
          have j1 : (0 : Int) ≤ 1024 * (q : Int) + 1024 := by omega
          have j2 : (0 : Int) ≤ 1024 * (q : Int) := by omega
          have j3 : 1024 * (q : Int) ≤ max (1024 * (q : Int) + 1024) 0 := by omega
          have j4 : ¬ c = (1024 * (q : Int)).toNat := by omega
          have j5 : (0 : Int) ≤ 1024 * ((n : Int) / 1024) := by omega
          have j6 : 1024 * (q : Int) + 1024 ≤ (c : Int) := by omega
          have j7 : 1024 * ((n : Int) / 1024) ≤ (c : Int) := by omega
          obtain ⟨SI, hSI⟩ : ∃ SI, strOfNums S.img = SI := ⟨_, rfl⟩
          have keep : ∀ W : World, Below wr.heap.size wr W → ((convert 27 9 (.slice (some xa) 1024 xc)).run Try.prog W = .ok (.string SX) W) ∧ ((convert 27 9 (.slice (some (ba.add (1024 * (q : Int)).toNat)) ((1024 * (q : Int) + 1024).toNat - (1024 * (q : Int)).toNat) (c - (1024 * (q : Int)).toNat))).run Try.prog W = .ok (.string SX) W) ∧
              ((convert 27 9 (.slice (some ba) (1024 * ((n : Int) / 1024)).toNat c)).run Try.prog W = .ok (.string SI) W) := by
            intro W hW
            have ho := Only.of_new (fun _ => False) hW
            refine ⟨?_, ?_, ?_⟩
            · rw [← hSX]; exact conv_bytes _ _ _ _ _ (hxb2.only ho (fun _ _ _ x => x))
            · rw [o1, ← o1, o2, o1, ← hSX]; exact conv_bytes _ _ _ _ _ (hbb.only ho (fun _ _ _ x => x))
            · rw [o3, ← hSI]; exact conv_bytes _ _ _ _ _ (hbi.only ho (fun _ _ _ x => x))
          have HK := Hid.mk keep
          have HIM7 := image_any _ wr.drew d S hD7 (by rw [HI2.out]; omega)
          rw [HI2.out] at HIM7
          have HIM7 := Hid.mk HIM7
          have HLG : Hid (∀ W, Below wr.drew.heap.size wr.drew W → Calls Try.prog 15 #[.pointer (some ⟨d, 0, none⟩)] W fun e w' => ∃ g0 : Nat, e = .returned (.slice (some ⟨g0, 0, none⟩) 0 0) ∧ Below W.heap.size W w') := fun W hW => by
            have hD8 := hD7.only (Only.of_new (fun _ => False) hW) (fun _ _ _ x => x)
            refine (log_any _ W d S hD8 (by rw [hi4]; exact Nat.zero_le _) (fun k hk => by rw [hi4] at hk; cases hk)).mono ?_
            rintro e w' ⟨g0, cells, rfl, _, _, _, hb⟩
            rw [hi4]
            exact ⟨g0, rfl, hb⟩
          clear hD7 hi4 hbi keep hbb hbc hxb2 o1 o2 o3
          go_wp2_with fail
          refine wp_region_held_drew (S := fun W => ((convert 27 9 (.slice (some xa) 1024 xc)).run Try.prog W = .ok (.string SX) W) ∧ ((convert 27 9 (.slice (some (ba.add (1024 * (q : Int)).toNat)) ((1024 * (q : Int) + 1024).toNat - (1024 * (q : Int)).toNat) (c - (1024 * (q : Int)).toNat))).run Try.prog W = .ok (.string SX) W) ∧
              ((convert 27 9 (.slice (some ba) (1024 * ((n : Int) / 1024)).toNat c)).run Try.prog W = .ok (.string SI) W)) (by kernel_rfl) (HK.out _ ⟨rfl, rfl, rfl, Nat.le_refl _, fun _ _ => rfl⟩) (fun hH => ?_)
          change wpAnyH Try.prog Region.Mode.any _ _ _ 44 _ _ _
          refine takeH 0 74 (.pointer (some ⟨d, 0, none⟩)) rfl (by kernel_rfl) (by kernel_rfl) (by kernel_rfl) (by kernel_rfl) (fun _ _ _ h => h) (by kernel_rfl) (fun w hw => by kernel_rfl) hH ?_
          simp only [List.setIfInBounds_toArray, List.set_cons_zero, List.set_cons_succ]
          refine takeH 2 76 (.int .i64 ((n : Int) / 1024)) rfl (by kernel_rfl) (by kernel_rfl) (by kernel_rfl) (by kernel_rfl) (fun _ _ _ h => h) (by kernel_rfl) (fun w hw => by kernel_rfl) hH ?_
          simp only [List.setIfInBounds_toArray, List.set_cons_zero, List.set_cons_succ]
          refine stepH_call1 1 75 rfl (by kernel_rfl) (by kernel_rfl) (by kernel_rfl) 16 (.tmp 74) #[24] (by kernel_rfl) (enters_of Try.func16 (by kernel_rfl) rfl) (.pointer (some ⟨d, 0, none⟩)) (by kernel_rfl) HBL.out ?_
          rintro e w7 ⟨rfl, hw7⟩
          subst w7
          refine ⟨_, rfl, hH, ?_⟩
          simp only [List.setIfInBounds_toArray, List.set_cons_zero, List.set_cons_succ]
          refine takeH 3 77 (.bool true) rfl (by kernel_rfl) (by kernel_rfl) (by kernel_rfl) (by kernel_rfl) (fun _ _ _ h => h) (by kernel_rfl) (fun w hw => by (try dsimp only at hw); go_simp) hH ?_
          simp only [List.setIfInBounds_toArray, List.set_cons_zero, List.set_cons_succ]
          refine takeH 4 78 (.bool true) rfl (by kernel_rfl) (by kernel_rfl) (by kernel_rfl) (by kernel_rfl) (fun _ _ _ h => h) (by kernel_rfl) (fun w hw => by kernel_rfl) hH ?_
          simp only [List.setIfInBounds_toArray, List.set_cons_zero, List.set_cons_succ]
          refine takeH 5 79 (.bool true) rfl (by kernel_rfl) (by kernel_rfl) (by kernel_rfl) (by kernel_rfl) (fun _ _ _ h => h) (by kernel_rfl) (fun w hw => by kernel_rfl) hH ?_
          simp only [List.setIfInBounds_toArray, List.set_cons_zero, List.set_cons_succ]
          refine takeH 6 80 (.bool true) rfl (by kernel_rfl) (by kernel_rfl) (by kernel_rfl) (by kernel_rfl) (fun _ _ _ h => h) (by kernel_rfl) (fun w hw => by kernel_rfl) hH ?_
          simp only [List.setIfInBounds_toArray, List.set_cons_zero, List.set_cons_succ]
          refine takeH 7 81 (.bool true) rfl (by kernel_rfl) (by kernel_rfl) (by kernel_rfl) (by kernel_rfl) (fun _ _ _ h => h) (by kernel_rfl) (fun w hw => by kernel_rfl) hH ?_
          simp only [List.setIfInBounds_toArray, List.set_cons_zero, List.set_cons_succ]
          refine takeH 8 82 (.bool true) rfl (by kernel_rfl) (by kernel_rfl) (by kernel_rfl) (by kernel_rfl) (fun _ _ _ h => h) (by kernel_rfl) (fun w hw => by kernel_rfl) hH ?_
          simp only [List.setIfInBounds_toArray, List.set_cons_zero, List.set_cons_succ]
          refine takeH 9 83 (.bool true) rfl (by kernel_rfl) (by kernel_rfl) (by kernel_rfl) (by kernel_rfl) (fun _ _ _ h => h) (by kernel_rfl) (fun w hw => by kernel_rfl) hH ?_
          simp only [List.setIfInBounds_toArray, List.set_cons_zero, List.set_cons_succ]
          refine takeH 10 84 (.bool true) rfl (by kernel_rfl) (by kernel_rfl) (by kernel_rfl) (by kernel_rfl) (fun _ _ _ h => h) (by kernel_rfl) (fun w hw => by kernel_rfl) hH ?_
          simp only [List.setIfInBounds_toArray, List.set_cons_zero, List.set_cons_succ]
          refine takeH 11 85 (.bool false) rfl (by kernel_rfl) (by kernel_rfl) (by kernel_rfl) (by kernel_rfl) (fun _ _ _ h => h) (by kernel_rfl) (fun w hw => by kernel_rfl) hH ?_
          simp only [List.setIfInBounds_toArray, List.set_cons_zero, List.set_cons_succ]
          refine takeH 12 86 (.bool false) rfl (by kernel_rfl) (by kernel_rfl) (by kernel_rfl) (by kernel_rfl) (fun _ _ _ h => h) (by kernel_rfl) (fun w hw => by kernel_rfl) hH ?_
          simp only [List.setIfInBounds_toArray, List.set_cons_zero, List.set_cons_succ]
          refine takeH 13 87 (.slice (some xa) 1024 xc) rfl (by kernel_rfl) (by kernel_rfl) (by kernel_rfl) (by kernel_rfl) (fun _ _ _ h => h) (by kernel_rfl) (fun w hw => by kernel_rfl) hH ?_
          simp only [List.setIfInBounds_toArray, List.set_cons_zero, List.set_cons_succ]
          refine takeH 14 88 (.string SX) rfl (by kernel_rfl) (by kernel_rfl) (by kernel_rfl) (by kernel_rfl) (fun _ _ _ h => h) (by kernel_rfl) (fun w hw => by (try dsimp only at hw); go_simp) hH ?_
          simp only [List.setIfInBounds_toArray, List.set_cons_zero, List.set_cons_succ]
          refine takeH 15 89 (.slice (some ba) n c) rfl (by kernel_rfl) (by kernel_rfl) (by kernel_rfl) (by kernel_rfl) (fun _ _ _ h => h) (by kernel_rfl) (fun w hw => by kernel_rfl) hH ?_
          simp only [List.setIfInBounds_toArray, List.set_cons_zero, List.set_cons_succ]
          refine takeH 16 90 (.int .i64 (q : Int)) rfl (by kernel_rfl) (by kernel_rfl) (by kernel_rfl) (by kernel_rfl) (fun _ _ _ h => h) (by kernel_rfl) (fun w hw => by kernel_rfl) hH ?_
          simp only [List.setIfInBounds_toArray, List.set_cons_zero, List.set_cons_succ]
          refine takeH 17 91 (.int .i64 (1024 * (q : Int))) rfl (by kernel_rfl) (by kernel_rfl) (by kernel_rfl) (by kernel_rfl) (fun _ _ _ h => h) (by kernel_rfl) (fun w hw => by (try dsimp only at hw); go_simp) hH ?_
          simp only [List.setIfInBounds_toArray, List.set_cons_zero, List.set_cons_succ]
          refine takeH 18 92 (.int .i64 (q : Int)) rfl (by kernel_rfl) (by kernel_rfl) (by kernel_rfl) (by kernel_rfl) (fun _ _ _ h => h) (by kernel_rfl) (fun w hw => by kernel_rfl) hH ?_
          simp only [List.setIfInBounds_toArray, List.set_cons_zero, List.set_cons_succ]
          refine takeH 19 93 (.int .i64 (1024 * (q : Int))) rfl (by kernel_rfl) (by kernel_rfl) (by kernel_rfl) (by kernel_rfl) (fun _ _ _ h => h) (by kernel_rfl) (fun w hw => by (try dsimp only at hw); go_simp) hH ?_
          simp only [List.setIfInBounds_toArray, List.set_cons_zero, List.set_cons_succ]
          refine takeH 20 94 (.int .i64 (1024 * (q : Int) + 1024)) rfl (by kernel_rfl) (by kernel_rfl) (by kernel_rfl) (by kernel_rfl) (fun _ _ _ h => h) (by kernel_rfl) (fun w hw => by (try dsimp only at hw); go_simp) hH ?_
          simp only [List.setIfInBounds_toArray, List.set_cons_zero, List.set_cons_succ]
          refine takeH 21 95 (.slice (some (ba.add (1024 * (q : Int)).toNat)) ((1024 * (q : Int) + 1024).toNat - (1024 * (q : Int)).toNat) (c - (1024 * (q : Int)).toNat)) rfl (by kernel_rfl) (by kernel_rfl) (by kernel_rfl) (by kernel_rfl) (fun _ _ _ h => h) (by kernel_rfl) (fun w hw => by (try dsimp only at hw); go_simp) hH ?_
          simp only [List.setIfInBounds_toArray, List.set_cons_zero, List.set_cons_succ]
          refine takeH 22 96 (.string SX) rfl (by kernel_rfl) (by kernel_rfl) (by kernel_rfl) (by kernel_rfl) (fun _ _ _ h => h) (by kernel_rfl) (fun w hw => by (try dsimp only at hw); go_simp) hH ?_
          simp only [List.setIfInBounds_toArray, List.set_cons_zero, List.set_cons_succ]
          refine takeH 23 97 (.bool true) rfl (by kernel_rfl) (by kernel_rfl) (by kernel_rfl) (by kernel_rfl) (fun _ _ _ h => h) (by kernel_rfl) (fun w hw => by (try dsimp only at hw); go_simp) hH ?_
          simp only [List.setIfInBounds_toArray, List.set_cons_zero, List.set_cons_succ]
          refine takeH 24 98 (.bool true) rfl (by kernel_rfl) (by kernel_rfl) (by kernel_rfl) (by kernel_rfl) (fun _ _ _ h => h) (by kernel_rfl) (fun w hw => by kernel_rfl) hH ?_
          simp only [List.setIfInBounds_toArray, List.set_cons_zero, List.set_cons_succ]
          refine takeH 25 99 (.bool true) rfl (by kernel_rfl) (by kernel_rfl) (by kernel_rfl) (by kernel_rfl) (fun _ _ _ h => h) (by kernel_rfl) (fun w hw => by kernel_rfl) hH ?_
          simp only [List.setIfInBounds_toArray, List.set_cons_zero, List.set_cons_succ]
          refine takeH 26 100 (.bool true) rfl (by kernel_rfl) (by kernel_rfl) (by kernel_rfl) (by kernel_rfl) (fun _ _ _ h => h) (by kernel_rfl) (fun w hw => by kernel_rfl) hH ?_
          simp only [List.setIfInBounds_toArray, List.set_cons_zero, List.set_cons_succ]
          refine takeH 27 101 (.pointer (some ⟨d, 0, none⟩)) rfl (by kernel_rfl) (by kernel_rfl) (by kernel_rfl) (by kernel_rfl) (fun _ _ _ h => h) (by kernel_rfl) (fun w hw => by kernel_rfl) hH ?_
          simp only [List.setIfInBounds_toArray, List.set_cons_zero, List.set_cons_succ]
          refine takeH 30 104 (.slice (some ba) n c) rfl (by kernel_rfl) (by kernel_rfl) (by kernel_rfl) (by kernel_rfl) (fun _ _ _ h => h) (by kernel_rfl) (fun w hw => by kernel_rfl) hH ?_
          simp only [List.setIfInBounds_toArray, List.set_cons_zero, List.set_cons_succ]
          refine takeH 31 105 (.int .i64 ((n : Int) / 1024)) rfl (by kernel_rfl) (by kernel_rfl) (by kernel_rfl) (by kernel_rfl) (fun _ _ _ h => h) (by kernel_rfl) (fun w hw => by kernel_rfl) hH ?_
          simp only [List.setIfInBounds_toArray, List.set_cons_zero, List.set_cons_succ]
          refine takeH 32 106 (.int .i64 (1024 * ((n : Int) / 1024))) rfl (by kernel_rfl) (by kernel_rfl) (by kernel_rfl) (by kernel_rfl) (fun _ _ _ h => h) (by kernel_rfl) (fun w hw => by (try dsimp only at hw); go_simp) hH ?_
          simp only [List.setIfInBounds_toArray, List.set_cons_zero, List.set_cons_succ]
          refine takeH 33 107 (.slice (some ba) (1024 * ((n : Int) / 1024)).toNat c) rfl (by kernel_rfl) (by kernel_rfl) (by kernel_rfl) (by kernel_rfl) (fun _ _ _ h => h) (by kernel_rfl) (fun w hw => by (try dsimp only at hw); go_simp) hH ?_
          simp only [List.setIfInBounds_toArray, List.set_cons_zero, List.set_cons_succ]
          refine takeH 34 108 (.string SI) rfl (by kernel_rfl) (by kernel_rfl) (by kernel_rfl) (by kernel_rfl) (fun _ _ _ h => h) (by kernel_rfl) (fun w hw => by (try dsimp only at hw); go_simp) hH ?_
          simp only [List.setIfInBounds_toArray, List.set_cons_zero, List.set_cons_succ]
          refine stepH_call1 28 102 rfl (by kernel_rfl) (by kernel_rfl) (by kernel_rfl) 17 (.tmp 101) #[24] (by kernel_rfl) (enters_of Try.func17 (by kernel_rfl) rfl) (.pointer (some ⟨d, 0, none⟩)) (by kernel_rfl) HIM7.out ?_
          rintro e w7 ⟨v7, rfl, hown7, hnn7, hB7⟩
          obtain ⟨io, ic, rfl, hib, _, _⟩ := owns_BAt hown7
          have cv7 := conv_bytes w7 io _ ic S.img hib
          rw [hSI] at cv7
          have hB7' : Below wr.heap.size wr w7 := ⟨hB7.os, hB7.tape, hB7.output, hB7.size, hB7.block⟩
          have hH7 := HK.out w7 hB7'
          have HB7 := Hid.mk hB7
          clear hown7 hnn7 hib hB7' hB7
          refine ⟨_, rfl, hH7, ?_⟩
          simp only [List.setIfInBounds_toArray, List.set_cons_zero, List.set_cons_succ]
          refine stepH 29 103 (.string SI) rfl (by kernel_rfl) (by kernel_rfl) (by kernel_rfl) (by go_simp) hH7 ?_
          simp only [List.setIfInBounds_toArray, List.set_cons_zero, List.set_cons_succ]
          refine takeH 35 109 (.bool true) rfl (by kernel_rfl) (by kernel_rfl) (by kernel_rfl) (by kernel_rfl) (fun _ _ _ h => h) (by kernel_rfl) (fun w hw => by (try dsimp only at hw); go_simp) hH7 ?_
          simp only [List.setIfInBounds_toArray, List.set_cons_zero, List.set_cons_succ]
          refine takeH 36 110 (.bool true) rfl (by kernel_rfl) (by kernel_rfl) (by kernel_rfl) (by kernel_rfl) (fun _ _ _ h => h) (by kernel_rfl) (fun w hw => by kernel_rfl) hH7 ?_
          simp only [List.setIfInBounds_toArray, List.set_cons_zero, List.set_cons_succ]
          refine takeH 37 111 (.bool true) rfl (by kernel_rfl) (by kernel_rfl) (by kernel_rfl) (by kernel_rfl) (fun _ _ _ h => h) (by kernel_rfl) (fun w hw => by kernel_rfl) hH7 ?_
          simp only [List.setIfInBounds_toArray, List.set_cons_zero, List.set_cons_succ]
          refine takeH 38 112 (.pointer (some ⟨d, 0, none⟩)) rfl (by kernel_rfl) (by kernel_rfl) (by kernel_rfl) (by kernel_rfl) (fun _ _ _ h => h) (by kernel_rfl) (fun w hw => by kernel_rfl) hH7 ?_
          simp only [List.setIfInBounds_toArray, List.set_cons_zero, List.set_cons_succ]
          refine stepH_call1 39 113 rfl (by kernel_rfl) (by kernel_rfl) (by kernel_rfl) 15 (.tmp 112) #[24] (by kernel_rfl) (enters_of Try.func15 (by kernel_rfl) rfl) (.pointer (some ⟨d, 0, none⟩)) (by kernel_rfl) (HLG.out w7 HB7.out) ?_
          rintro e w8 ⟨g8, rfl, hB8⟩
          have s7 := HB7.out.size
          have hB8' : Below wr.heap.size wr w8 := Below.trans (b := w7) ⟨HB7.out.os, HB7.out.tape, HB7.out.output, HB7.out.size, HB7.out.block⟩ (hB8.mono s7)
          have hH8 := HK.out w8 hB8'
          have HB8 := Hid.mk hB8'
          clear hB8 hB8' s7
          refine ⟨_, rfl, hH8, ?_⟩
          simp only [List.setIfInBounds_toArray, List.set_cons_zero, List.set_cons_succ]
          refine takeH 40 114 (.int .i64 0) rfl (by kernel_rfl) (by kernel_rfl) (by kernel_rfl) (by kernel_rfl) (fun _ _ _ h => h) (by kernel_rfl) (fun w hw => by (try dsimp only at hw); go_simp) hH8 ?_
          simp only [List.setIfInBounds_toArray, List.set_cons_zero, List.set_cons_succ]
          refine takeH 41 115 (.bool true) rfl (by kernel_rfl) (by kernel_rfl) (by kernel_rfl) (by kernel_rfl) (fun _ _ _ h => h) (by kernel_rfl) (fun w hw => by kernel_rfl) hH8 ?_
          simp only [List.setIfInBounds_toArray, List.set_cons_zero, List.set_cons_succ]
          refine takeH 42 116 (.bool true) rfl (by kernel_rfl) (by kernel_rfl) (by kernel_rfl) (by kernel_rfl) (fun _ _ _ h => h) (by kernel_rfl) (fun w hw => by kernel_rfl) hH8 ?_
          simp only [List.setIfInBounds_toArray, List.set_cons_zero, List.set_cons_succ]
          refine takeH 43 4 (.bool true) rfl (by kernel_rfl) (by kernel_rfl) (by kernel_rfl) (by kernel_rfl) (fun _ _ _ h => h) (by kernel_rfl) (fun w hw => by kernel_rfl) hH8 ?_
          simp only [List.setIfInBounds_toArray, List.set_cons_zero, List.set_cons_succ]
          refine wpAnyH_done (by kernel_rfl) ?_ _
          go_wp2
          go_ret
          have s4 := HW4.out.size
          have s5 := HB5.out.size
          have s6 := HON.out.size
          exact ⟨rfl, HW4.out.trans ((HB5.out.mono s4).trans ((HON.out.below (by omega) (fun j e => by omega)).trans (HB8.out.mono (by omega))))⟩

set_option maxRecDepth 100000 in
set_option maxHeartbeats 8000000 in
theorem images_short_far (ao : Option Addr) (n c : Nat) (xs : List Int) (block : Int) (w : World) (hn : n ≤ 60000) (hnc : n ≤ c) (h : BAt w ao n xs) (hnone : ao = none → n = 0 ∧ c = 0) (hx : ∀ x ∈ xs, 0 ≤ x ∧ x ≤ 255) (hb0 : 0 ≤ block) (hb1 : ¬ block < ((n / 1024 : Nat) : Int)) :
    Calls Try.prog 4 #[.slice ao n c, .int .i64 (block : Int)] w fun e w' => e = .returned (.bool true) ∧ Below w.heap.size w w' := by
  have HX := Hid.mk hx
  have HN := Hid.mk hnone
  clear hx hnone
  obtain ⟨hi1, hi2, hi3, hi4⟩ := ofB_short h.1 hn
  have hBB : (hasB (ofB xs) block && !(ofB xs).dead) = false := by
    rw [hi3]
    unfold hasB
    rw [hi2]
    simp
    omega
  generalize hS : ofB xs = S at *
  have HS := Hid.mk hS
  have HI1 := Hid.mk hi1
  have HI2 := Hid.mk hi2
  have HI4 := Hid.mk hi4
  have HBB := Hid.mk hBB
  clear hS hi1 hi2 hi3 hi4 hBB
  have hb1' : decide (block < (n : Int) / 1024) = false := by simp; omega
  go_enter Try.func4, Try.ntmps4
  go_wp2_with fail
  refine (alive_any w).mono ?_
  rintro e w1 ⟨rfl, hb⟩
  have h1 : BAt w1 ao n xs := h.only (Only.of_new (fun _ => False) hb) (fun _ _ _ x => x)
  have HB1 := Hid.mk hb
  obtain ⟨v', w2, hrun, hown, hg⟩ := append_nil_run w1 ao n c xs h1 (by omega) HN.out
  have H1 := Hid.mk h1
  have HR := Hid.mk hrun
  have HAL : Hid (∀ a, ao = some a → 0 < n → a.block < w1.heap.size) := fun a e h0 => by
    obtain ⟨a', e', hl, _⟩ := H1.out.2 h0
    rw [e] at e'
    cases e'
    exact hl
  clear h h1 hb hrun
  have HG := Hid.mk hg
  obtain ⟨oo, oc, rfl, hO2, hO3, hO4⟩ := owns_BAt hown
  have HY := Hid.mk (owns_bytey hown HX.out)
  have HO2 := Hid.mk hO2
  have HO3 := Hid.mk hO3
  have HO4 := Hid.mk hO4
  have HOL : Hid (∀ a, oo = some a → w1.heap.size ≤ a.block ∧ a.block < w2.heap.size) := fun a e => by
    obtain ⟨cur, hb, _⟩ := HY.out a.block (HO3.out a e).2.1
    exact ⟨(HO3.out a e).1, lt_of_block hb⟩
  clear hown hO2 hO3 hO4 hg
  have hnd : decide ((60000 : Int) < (n : Int)) = false := by simp; omega
  go_wp2_with (at_builtin; refine wpList_append_known rfl _ _ 27 rfl _ _ _ _ rfl rfl HR.out ?_)
  have HOF := of_any w2 oo n oc xs HO2.out.1 (by omega) HO2.out.2
  rw [HS.out] at HOF
  refine HOF.mono ?_
  clear HOF
  rintro e w3 ⟨d, rfl, hd3, hD3, hB3⟩
  have HD3 := Hid.mk hD3
  have HB3 := Hid.mk hB3
  clear hD3 hB3
  have HY3 : Hid (∀ a, oo = some a → Bytey w3 a.block n) := fun a e => by
    obtain ⟨cur, hb, hc⟩ := HY.out a.block (HO3.out a e).2.1
    exact ⟨cur, (HB3.out.block _ (lt_of_block hb)).trans hb, hc⟩
  go_wp2_with fail
  go_loopw [8] (fun i wr => ∃ k : Nat, k ≤ n ∧ i = .int .i64 k ∧ (∀ a, oo = some a → Bytey wr a.block n) ∧ Only (fun j => ∃ a, oo = some a ∧ j = a.block) w3 wr) (fun i _ => n - (intOf i).toNat)
  case atStart => exact ⟨0, by omega, rfl, HY3.out, Only.refl _ _⟩
  case round =>
    obtain ⟨k, hk, rfl, hby, hon⟩ := hrel
    by_cases hlt : k < n
    · obtain ⟨a, rfl⟩ : ∃ a, oo = some a := Option.ne_none_iff_exists'.1 (HO4.out (by omega))
      obtain ⟨_, _, e1, e2⟩ := HO3.out a rfl
      obtain ⟨g, ao', sp⟩ := a
      simp at e1 e2
      subst e1 e2
      obtain ⟨v, hv0, hv1, hc, hf⟩ := (hby _ rfl).at k hlt
      dsimp only at hc hf
      have HBY := Hid.mk (hby _ rfl)
      have HON := Hid.mk hon
      clear hby hon HY HY3 HO2 HO3 HO4 HOL
      go_wp2
      go_roundw
      case rel =>
        have hbd := xor_bound v
        exact ⟨k + 1, by omega, by go_num, fun a e => by cases e; exact HBY.out.set k _ hbd.1 hbd.2, HON.out.setCell (p := ⟨g, k, none⟩) (.inl ⟨_, rfl, rfl⟩) _⟩
      case measure => (clear HBY HON HD3 HB3 HR; simp [intOf]; omega)
    · obtain rfl : n = k := by omega
      have HO5 := Hid.mk hon
      have hD4 : DiskAt (fun j => w2.heap.size ≤ j) wr d S := HD3.out.only hon (fun j hj hF => by
        rintro ⟨a, e, rfl⟩
        have := (HOL.out a e).2
        omega)
      have hbr : BAt wr ao n xs := by
        rcases Nat.eq_zero_or_pos n with h0 | h0
        · exact ⟨H1.out.1, fun h => by omega⟩
        · exact ((H1.out.only ((Only.refl (fun _ => False) w1).grown HG.out (by simp)) (fun _ _ _ x => x)).only (Only.of_new (fun _ => False) HB3.out) (fun _ _ _ x => x)).only hon (fun a e hl => by
            rintro ⟨b, e2, e3⟩
            have := (HOL.out b e2).1
            have := HAL.out a e h0
            omega)
      have HBR := Hid.mk hbr
      have HD4 := Hid.mk hD4
      have HRD := read_any _ wr d S hD4 (by rw [HI2.out]; omega) block
      rw [HBB.out] at HRD
      clear hby hon hD4 hbr HY HY3 HO2 HO3 HO4 HR
      go_wp2_with fail
      refine HRD.mono ?_
      clear HRD
      rintro e w4 ⟨xo, xn, xc, rfl, hB4, hxo, hyes, hno⟩
      have HB4 := Hid.mk hB4
      have HYES := Hid.mk hyes
      have HNO := Hid.mk hno
      have HXO := Hid.mk hxo
      clear hB4 hyes hno hxo
      have hD5 := (HD4.out.only (Only.of_new (fun _ => False) HB4.out) (fun _ _ _ x => x)).mono (H := fun j => j < w4.heap.size) (fun k hk _ => hk.lt)
      have HIM := image_any _ w4 d S hD5 (by rw [HI2.out]; omega)
      rw [HI2.out] at HIM
      have HD5 := Hid.mk hD5
      clear hD5
      have HBR4 := Hid.mk (HBR.out.only (Only.of_new (fun _ => False) HB4.out) (fun _ _ _ x => x))
      have HW4 : Hid (Below w.heap.size w w4) := by
        have s1 := HB1.out.size
        have s2 := HG.out.size
        have s3 := HB3.out.size
        have sr := HO5.out.size
        exact (HB1.out.grown HG.out s1 (by simp)).trans ((HB3.out.mono (by omega)).trans ((HO5.out.below (by omega) (fun k e => by
          obtain ⟨a, e1, rfl⟩ := e
          have := (HOL.out a e1).1
          omega)).trans (HB4.out.mono (by omega))))
      go_wp2_with fail
      refine HIM.mono ?_
      clear HIM
      rintro e w5 ⟨v5, rfl, hown5, hnn5, hB5⟩
      have HB5 := Hid.mk hB5
      have hby5 := owns_bytey hown5 (fun x hx => HX.out x (by rw [HI1.out] at hx; exact List.mem_of_mem_take hx))
      obtain ⟨g5, cap5, rfl, hg5, hlt5, hcap5, hlen5, hcell5⟩ := owns_bytes hown5 hnn5
      have HY5 := Hid.mk (hby5 g5 rfl)
      clear hown5 hnn5 hB5 hby5 hcell5 hlen5
      go_wp2_with fail
      go_loopw [14] (fun i wr => ∃ k : Nat, k ≤ 1024 * (n / 1024) + 99 ∧ i = .int .i64 k ∧ Bytey wr g5 (1024 * (n / 1024)) ∧ Only (fun j => j = g5) w5 wr) (fun i _ => 1024 * (n / 1024) + 100 - (intOf i).toNat)
      case atStart => exact ⟨0, by omega, rfl, HY5.out, Only.refl _ _⟩
      case round =>
        obtain ⟨k, hk5, rfl, hby, hon⟩ := hrel
        by_cases hlt6 : k < 1024 * (n / 1024)
        · obtain ⟨v, hv0, hv1, hc, hf⟩ := hby.at k hlt6
          have HBY := Hid.mk hby
          have HON := Hid.mk hon
          clear hby hon
          go_wp2
          go_roundw
          case rel =>
            have hbd := xor_bound v
            exact ⟨k + 100, by omega, by go_num, HBY.out.set k _ hbd.1 hbd.2, HON.out.setCell (p := ⟨g5, k, none⟩) (.inl rfl) _⟩
          case measure => (clear HBY HON HD3 HB3; simp [intOf]; omega)
        · have HON := Hid.mk hon
          clear hby hon
          have hbr5 : BAt wr ao n xs := by
            rcases Nat.eq_zero_or_pos n with h0 | h0
            · exact ⟨HBR4.out.1, fun h => by omega⟩
            · exact (HBR4.out.only (Only.of_new (fun _ => False) HB5.out) (fun _ _ _ x => x)).only HON.out (fun a e hl hg => by
                obtain ⟨a', e', hl', _⟩ := HBR4.out.2 h0
                rw [e] at e'
                cases e'
                omega)
          have s5 := HB5.out.size
          have hD6 := (HD5.out.only (Only.of_new (fun _ => False) HB5.out) (fun _ _ _ x => x)).only HON.out (fun j hj hF hg => by omega)
          have hD7 : DiskAt (fun j => j < w4.heap.size) wr.drew d S := hD6.at (fun _ _ => rfl)
          have HBL := blocks_any _ wr.drew d S hD7 (by rw [HI2.out]; omega)
          rw [HI2.out, Nat.mul_div_cancel_left _ (by omega)] at HBL
          have hnq : ((n / 1024 : Nat) : Int) = (n : Int) / 1024 := by omega
          rw [hnq] at HBL
          clear hnq hD6
          have HBL := Hid.mk HBL
          have hi4 := HI4.out
          have o3 : (1024 * ((n : Int) / 1024)).toNat = 1024 * (n / 1024) := by omega
          have hbi : BAt wr ao (1024 * (n / 1024)) S.img := by
            refine ⟨HI2.out, fun h0 => ?_⟩
            obtain ⟨ba, e, hbl, hbc⟩ := hbr5.2 (by omega)
            refine ⟨ba, e, hbl, fun i hi => ?_⟩
            rw [hbc i (by omega), HI1.out]
            simp [List.getD, hi]
          have k3 : IntKind.i64.wrap (1024 * ((n : Int) / 1024)) = 1024 * ((n : Int) / 1024) := by rw [IntKind.wrap_i64]; omega
          have j5 : (0 : Int) ≤ 1024 * ((n : Int) / 1024) := by omega
          have j7 : 1024 * ((n : Int) / 1024) ≤ (c : Int) := by omega
          obtain ⟨SI, hSI⟩ : ∃ SI, strOfNums S.img = SI := ⟨_, rfl⟩
          have keep : ∀ W : World, Below wr.heap.size wr W → (convert 27 9 (.slice ao (1024 * ((n : Int) / 1024)).toNat c)).run Try.prog W = .ok (.string SI) W := by
            intro W hW
            rw [o3, ← hSI]
            exact conv_bytes _ _ _ _ _ (hbi.only (Only.of_new (fun _ => False) hW) (fun _ _ _ x => x))
          have HK := Hid.mk keep
          have HIM7 := image_any _ wr.drew d S hD7 (by rw [HI2.out]; omega)
          rw [HI2.out] at HIM7
          have HIM7 := Hid.mk HIM7
          have HLG : Hid (∀ W, Below wr.drew.heap.size wr.drew W → Calls Try.prog 15 #[.pointer (some ⟨d, 0, none⟩)] W fun e w' => ∃ g0 : Nat, e = .returned (.slice (some ⟨g0, 0, none⟩) 0 0) ∧ Below W.heap.size W w') := fun W hW => by
            have hD8 := hD7.only (Only.of_new (fun _ => False) hW) (fun _ _ _ x => x)
            refine (log_any _ W d S hD8 (by rw [hi4]; exact Nat.zero_le _) (fun k hk => by rw [hi4] at hk; cases hk)).mono ?_
            rintro e w' ⟨g0, cells, rfl, _, _, _, hb⟩
            rw [hi4]
            exact ⟨g0, rfl, hb⟩
          clear hD7 hi4 hbi keep hbr5 o3
          go_wp2_with fail
          refine wp_region_held_drew (S := fun W => (convert 27 9 (.slice ao (1024 * ((n : Int) / 1024)).toNat c)).run Try.prog W = .ok (.string SI) W) (by kernel_rfl) (HK.out _ ⟨rfl, rfl, rfl, Nat.le_refl _, fun _ _ => rfl⟩) (fun hH => ?_)
          change wpAnyH Try.prog Region.Mode.any _ _ _ 44 _ _ _
          refine takeH 0 74 (.pointer (some ⟨d, 0, none⟩)) rfl (by kernel_rfl) (by kernel_rfl) (by kernel_rfl) (by kernel_rfl) (fun _ _ _ h => h) (by kernel_rfl) (fun w hw => by kernel_rfl) hH ?_
          simp only [List.setIfInBounds_toArray, List.set_cons_zero, List.set_cons_succ]
          refine takeH 2 76 (.int .i64 ((n : Int) / 1024)) rfl (by kernel_rfl) (by kernel_rfl) (by kernel_rfl) (by kernel_rfl) (fun _ _ _ h => h) (by kernel_rfl) (fun w hw => by kernel_rfl) hH ?_
          simp only [List.setIfInBounds_toArray, List.set_cons_zero, List.set_cons_succ]
          refine stepH_call1 1 75 rfl (by kernel_rfl) (by kernel_rfl) (by kernel_rfl) 16 (.tmp 74) #[24] (by kernel_rfl) (enters_of Try.func16 (by kernel_rfl) rfl) (.pointer (some ⟨d, 0, none⟩)) (by kernel_rfl) HBL.out ?_
          rintro e w7 ⟨rfl, hw7⟩
          subst w7
          refine ⟨_, rfl, hH, ?_⟩
          simp only [List.setIfInBounds_toArray, List.set_cons_zero, List.set_cons_succ]
          refine takeH 3 77 (.bool true) rfl (by kernel_rfl) (by kernel_rfl) (by kernel_rfl) (by kernel_rfl) (fun _ _ _ h => h) (by kernel_rfl) (fun w hw => by (try dsimp only at hw); go_simp) hH ?_
          simp only [List.setIfInBounds_toArray, List.set_cons_zero, List.set_cons_succ]
          refine takeH 4 78 (.bool true) rfl (by kernel_rfl) (by kernel_rfl) (by kernel_rfl) (by kernel_rfl) (fun _ _ _ h => h) (by kernel_rfl) (fun w hw => by kernel_rfl) hH ?_
          simp only [List.setIfInBounds_toArray, List.set_cons_zero, List.set_cons_succ]
          refine takeH 5 79 (.bool false) rfl (by kernel_rfl) (by kernel_rfl) (by kernel_rfl) (by kernel_rfl) (fun _ _ _ h => h) (by kernel_rfl) (fun w hw => by kernel_rfl) hH ?_
          simp only [List.setIfInBounds_toArray, List.set_cons_zero, List.set_cons_succ]
          refine takeH 6 80 (.bool false) rfl (by kernel_rfl) (by kernel_rfl) (by kernel_rfl) (by kernel_rfl) (fun _ _ _ h => h) (by kernel_rfl) (fun w hw => by kernel_rfl) hH ?_
          simp only [List.setIfInBounds_toArray, List.set_cons_zero, List.set_cons_succ]
          refine takeH 7 81 (.bool true) rfl (by kernel_rfl) (by kernel_rfl) (by kernel_rfl) (by kernel_rfl) (fun _ _ _ h => h) (by kernel_rfl) (fun w hw => by kernel_rfl) hH ?_
          simp only [List.setIfInBounds_toArray, List.set_cons_zero, List.set_cons_succ]
          refine takeH 8 82 (.bool true) rfl (by kernel_rfl) (by kernel_rfl) (by kernel_rfl) (by kernel_rfl) (fun _ _ _ h => h) (by kernel_rfl) (fun w hw => by kernel_rfl) hH ?_
          simp only [List.setIfInBounds_toArray, List.set_cons_zero, List.set_cons_succ]
          refine takeH 9 83 (.bool true) rfl (by kernel_rfl) (by kernel_rfl) (by kernel_rfl) (by kernel_rfl) (fun _ _ _ h => h) (by kernel_rfl) (fun w hw => by kernel_rfl) hH ?_
          simp only [List.setIfInBounds_toArray, List.set_cons_zero, List.set_cons_succ]
          refine takeH 10 84 (.bool false) rfl (by kernel_rfl) (by kernel_rfl) (by kernel_rfl) (by kernel_rfl) (fun _ _ _ h => h) (by kernel_rfl) (fun w hw => by kernel_rfl) hH ?_
          simp only [List.setIfInBounds_toArray, List.set_cons_zero, List.set_cons_succ]
          refine takeH 11 85 (.bool true) rfl (by kernel_rfl) (by kernel_rfl) (by kernel_rfl) (by kernel_rfl) (fun _ _ _ h => h) (by kernel_rfl) (fun w hw => by kernel_rfl) hH ?_
          simp only [List.setIfInBounds_toArray, List.set_cons_zero, List.set_cons_succ]
          refine takeH 12 86 (.bool true) rfl (by kernel_rfl) (by kernel_rfl) (by kernel_rfl) (by kernel_rfl) (fun _ _ _ h => h) (by kernel_rfl) (fun w hw => by kernel_rfl) hH ?_
          simp only [List.setIfInBounds_toArray, List.set_cons_zero, List.set_cons_succ]
          refine skipH 13 87 rfl (by kernel_rfl) (by kernel_rfl) (by kernel_rfl) (by kernel_rfl) (fun _ _ _ h => h) (by kernel_rfl) hH ?_
          simp only [List.setIfInBounds_toArray, List.set_cons_zero, List.set_cons_succ]
          refine skipH 14 88 rfl (by kernel_rfl) (by kernel_rfl) (by kernel_rfl) (by kernel_rfl) (fun _ _ _ h => h) (by kernel_rfl) hH ?_
          simp only [List.setIfInBounds_toArray, List.set_cons_zero, List.set_cons_succ]
          refine skipH 15 89 rfl (by kernel_rfl) (by kernel_rfl) (by kernel_rfl) (by kernel_rfl) (fun _ _ _ h => h) (by kernel_rfl) hH ?_
          simp only [List.setIfInBounds_toArray, List.set_cons_zero, List.set_cons_succ]
          refine skipH 16 90 rfl (by kernel_rfl) (by kernel_rfl) (by kernel_rfl) (by kernel_rfl) (fun _ _ _ h => h) (by kernel_rfl) hH ?_
          simp only [List.setIfInBounds_toArray, List.set_cons_zero, List.set_cons_succ]
          refine skipH 17 91 rfl (by kernel_rfl) (by kernel_rfl) (by kernel_rfl) (by kernel_rfl) (fun _ _ _ h => h) (by kernel_rfl) hH ?_
          simp only [List.setIfInBounds_toArray, List.set_cons_zero, List.set_cons_succ]
          refine skipH 18 92 rfl (by kernel_rfl) (by kernel_rfl) (by kernel_rfl) (by kernel_rfl) (fun _ _ _ h => h) (by kernel_rfl) hH ?_
          simp only [List.setIfInBounds_toArray, List.set_cons_zero, List.set_cons_succ]
          refine skipH 19 93 rfl (by kernel_rfl) (by kernel_rfl) (by kernel_rfl) (by kernel_rfl) (fun _ _ _ h => h) (by kernel_rfl) hH ?_
          simp only [List.setIfInBounds_toArray, List.set_cons_zero, List.set_cons_succ]
          refine skipH 20 94 rfl (by kernel_rfl) (by kernel_rfl) (by kernel_rfl) (by kernel_rfl) (fun _ _ _ h => h) (by kernel_rfl) hH ?_
          simp only [List.setIfInBounds_toArray, List.set_cons_zero, List.set_cons_succ]
          refine skipH 21 95 rfl (by kernel_rfl) (by kernel_rfl) (by kernel_rfl) (by kernel_rfl) (fun _ _ _ h => h) (by kernel_rfl) hH ?_
          simp only [List.setIfInBounds_toArray, List.set_cons_zero, List.set_cons_succ]
          refine skipH 22 96 rfl (by kernel_rfl) (by kernel_rfl) (by kernel_rfl) (by kernel_rfl) (fun _ _ _ h => h) (by kernel_rfl) hH ?_
          simp only [List.setIfInBounds_toArray, List.set_cons_zero, List.set_cons_succ]
          refine skipH 23 97 rfl (by kernel_rfl) (by kernel_rfl) (by kernel_rfl) (by kernel_rfl) (fun _ _ _ h => h) (by kernel_rfl) hH ?_
          simp only [List.setIfInBounds_toArray, List.set_cons_zero, List.set_cons_succ]
          refine takeH 24 98 (.bool true) rfl (by kernel_rfl) (by kernel_rfl) (by kernel_rfl) (by kernel_rfl) (fun _ _ _ h => h) (by kernel_rfl) (fun w hw => by kernel_rfl) hH ?_
          simp only [List.setIfInBounds_toArray, List.set_cons_zero, List.set_cons_succ]
          refine takeH 25 99 (.bool true) rfl (by kernel_rfl) (by kernel_rfl) (by kernel_rfl) (by kernel_rfl) (fun _ _ _ h => h) (by kernel_rfl) (fun w hw => by kernel_rfl) hH ?_
          simp only [List.setIfInBounds_toArray, List.set_cons_zero, List.set_cons_succ]
          refine takeH 26 100 (.bool true) rfl (by kernel_rfl) (by kernel_rfl) (by kernel_rfl) (by kernel_rfl) (fun _ _ _ h => h) (by kernel_rfl) (fun w hw => by kernel_rfl) hH ?_
          simp only [List.setIfInBounds_toArray, List.set_cons_zero, List.set_cons_succ]
          refine takeH 27 101 (.pointer (some ⟨d, 0, none⟩)) rfl (by kernel_rfl) (by kernel_rfl) (by kernel_rfl) (by kernel_rfl) (fun _ _ _ h => h) (by kernel_rfl) (fun w hw => by kernel_rfl) hH ?_
          simp only [List.setIfInBounds_toArray, List.set_cons_zero, List.set_cons_succ]
          refine takeH 30 104 (.slice ao n c) rfl (by kernel_rfl) (by kernel_rfl) (by kernel_rfl) (by kernel_rfl) (fun _ _ _ h => h) (by kernel_rfl) (fun w hw => by kernel_rfl) hH ?_
          simp only [List.setIfInBounds_toArray, List.set_cons_zero, List.set_cons_succ]
          refine takeH 31 105 (.int .i64 ((n : Int) / 1024)) rfl (by kernel_rfl) (by kernel_rfl) (by kernel_rfl) (by kernel_rfl) (fun _ _ _ h => h) (by kernel_rfl) (fun w hw => by kernel_rfl) hH ?_
          simp only [List.setIfInBounds_toArray, List.set_cons_zero, List.set_cons_succ]
          refine takeH 32 106 (.int .i64 (1024 * ((n : Int) / 1024))) rfl (by kernel_rfl) (by kernel_rfl) (by kernel_rfl) (by kernel_rfl) (fun _ _ _ h => h) (by kernel_rfl) (fun w hw => by (try dsimp only at hw); go_simp) hH ?_
          simp only [List.setIfInBounds_toArray, List.set_cons_zero, List.set_cons_succ]
          refine takeH 33 107 (.slice ao (1024 * ((n : Int) / 1024)).toNat c) rfl (by kernel_rfl) (by kernel_rfl) (by kernel_rfl) (by kernel_rfl) (fun _ _ _ h => h) (by kernel_rfl) (fun w hw => by (try dsimp only at hw); go_simp) hH ?_
          simp only [List.setIfInBounds_toArray, List.set_cons_zero, List.set_cons_succ]
          refine takeH 34 108 (.string SI) rfl (by kernel_rfl) (by kernel_rfl) (by kernel_rfl) (by kernel_rfl) (fun _ _ _ h => h) (by kernel_rfl) (fun w hw => by (try dsimp only at hw); go_simp) hH ?_
          simp only [List.setIfInBounds_toArray, List.set_cons_zero, List.set_cons_succ]
          refine stepH_call1 28 102 rfl (by kernel_rfl) (by kernel_rfl) (by kernel_rfl) 17 (.tmp 101) #[24] (by kernel_rfl) (enters_of Try.func17 (by kernel_rfl) rfl) (.pointer (some ⟨d, 0, none⟩)) (by kernel_rfl) HIM7.out ?_
          rintro e w7 ⟨v7, rfl, hown7, hnn7, hB7⟩
          obtain ⟨io, ic, rfl, hib, _, _⟩ := owns_BAt hown7
          have cv7 := conv_bytes w7 io _ ic S.img hib
          rw [hSI] at cv7
          have hB7' : Below wr.heap.size wr w7 := ⟨hB7.os, hB7.tape, hB7.output, hB7.size, hB7.block⟩
          have hH7 := HK.out w7 hB7'
          have HB7 := Hid.mk hB7
          clear hown7 hnn7 hib hB7' hB7
          refine ⟨_, rfl, hH7, ?_⟩
          simp only [List.setIfInBounds_toArray, List.set_cons_zero, List.set_cons_succ]
          refine stepH 29 103 (.string SI) rfl (by kernel_rfl) (by kernel_rfl) (by kernel_rfl) (by go_simp) hH7 ?_
          simp only [List.setIfInBounds_toArray, List.set_cons_zero, List.set_cons_succ]
          refine takeH 35 109 (.bool true) rfl (by kernel_rfl) (by kernel_rfl) (by kernel_rfl) (by kernel_rfl) (fun _ _ _ h => h) (by kernel_rfl) (fun w hw => by (try dsimp only at hw); go_simp) hH7 ?_
          simp only [List.setIfInBounds_toArray, List.set_cons_zero, List.set_cons_succ]
          refine takeH 36 110 (.bool true) rfl (by kernel_rfl) (by kernel_rfl) (by kernel_rfl) (by kernel_rfl) (fun _ _ _ h => h) (by kernel_rfl) (fun w hw => by kernel_rfl) hH7 ?_
          simp only [List.setIfInBounds_toArray, List.set_cons_zero, List.set_cons_succ]
          refine takeH 37 111 (.bool true) rfl (by kernel_rfl) (by kernel_rfl) (by kernel_rfl) (by kernel_rfl) (fun _ _ _ h => h) (by kernel_rfl) (fun w hw => by kernel_rfl) hH7 ?_
          simp only [List.setIfInBounds_toArray, List.set_cons_zero, List.set_cons_succ]
          refine takeH 38 112 (.pointer (some ⟨d, 0, none⟩)) rfl (by kernel_rfl) (by kernel_rfl) (by kernel_rfl) (by kernel_rfl) (fun _ _ _ h => h) (by kernel_rfl) (fun w hw => by kernel_rfl) hH7 ?_
          simp only [List.setIfInBounds_toArray, List.set_cons_zero, List.set_cons_succ]
          refine stepH_call1 39 113 rfl (by kernel_rfl) (by kernel_rfl) (by kernel_rfl) 15 (.tmp 112) #[24] (by kernel_rfl) (enters_of Try.func15 (by kernel_rfl) rfl) (.pointer (some ⟨d, 0, none⟩)) (by kernel_rfl) (HLG.out w7 HB7.out) ?_
          rintro e w8 ⟨g8, rfl, hB8⟩
          have s7 := HB7.out.size
          have hB8' : Below wr.heap.size wr w8 := Below.trans (b := w7) ⟨HB7.out.os, HB7.out.tape, HB7.out.output, HB7.out.size, HB7.out.block⟩ (hB8.mono s7)
          have hH8 := HK.out w8 hB8'
          have HB8 := Hid.mk hB8'
          clear hB8 hB8' s7
          refine ⟨_, rfl, hH8, ?_⟩
          simp only [List.setIfInBounds_toArray, List.set_cons_zero, List.set_cons_succ]
          refine takeH 40 114 (.int .i64 0) rfl (by kernel_rfl) (by kernel_rfl) (by kernel_rfl) (by kernel_rfl) (fun _ _ _ h => h) (by kernel_rfl) (fun w hw => by (try dsimp only at hw); go_simp) hH8 ?_
          simp only [List.setIfInBounds_toArray, List.set_cons_zero, List.set_cons_succ]
          refine takeH 41 115 (.bool true) rfl (by kernel_rfl) (by kernel_rfl) (by kernel_rfl) (by kernel_rfl) (fun _ _ _ h => h) (by kernel_rfl) (fun w hw => by kernel_rfl) hH8 ?_
          simp only [List.setIfInBounds_toArray, List.set_cons_zero, List.set_cons_succ]
          refine takeH 42 116 (.bool true) rfl (by kernel_rfl) (by kernel_rfl) (by kernel_rfl) (by kernel_rfl) (fun _ _ _ h => h) (by kernel_rfl) (fun w hw => by kernel_rfl) hH8 ?_
          simp only [List.setIfInBounds_toArray, List.set_cons_zero, List.set_cons_succ]
          refine takeH 43 4 (.bool true) rfl (by kernel_rfl) (by kernel_rfl) (by kernel_rfl) (by kernel_rfl) (fun _ _ _ h => h) (by kernel_rfl) (fun w hw => by kernel_rfl) hH8 ?_
          simp only [List.setIfInBounds_toArray, List.set_cons_zero, List.set_cons_succ]
          refine wpAnyH_done (by kernel_rfl) ?_ _
          go_wp2
          go_ret
          have s4 := HW4.out.size
          have s5 := HB5.out.size
          have s6 := HON.out.size
          exact ⟨rfl, HW4.out.trans ((HB5.out.mono s4).trans ((HON.out.below (by omega) (fun j e => by omega)).trans (HB8.out.mono (by omega))))⟩

set_option maxRecDepth 100000 in
set_option maxHeartbeats 8000000 in
theorem images_short_neg (ao : Option Addr) (n c : Nat) (xs : List Int) (block : Int) (w : World) (hn : n ≤ 60000) (hnc : n ≤ c) (h : BAt w ao n xs) (hnone : ao = none → n = 0 ∧ c = 0) (hx : ∀ x ∈ xs, 0 ≤ x ∧ x ≤ 255) (hb0 : block < 0) :
    Calls Try.prog 4 #[.slice ao n c, .int .i64 (block : Int)] w fun e w' => e = .returned (.bool true) ∧ Below w.heap.size w w' := by
  have HX := Hid.mk hx
  have HN := Hid.mk hnone
  clear hx hnone
  obtain ⟨hi1, hi2, hi3, hi4⟩ := ofB_short h.1 hn
  have hBB : (hasB (ofB xs) block && !(ofB xs).dead) = false := by
    rw [hi3]
    unfold hasB
    rw [hi2]
    simp
    omega
  generalize hS : ofB xs = S at *
  have HS := Hid.mk hS
  have HI1 := Hid.mk hi1
  have HI2 := Hid.mk hi2
  have HI4 := Hid.mk hi4
  have HBB := Hid.mk hBB
  clear hS hi1 hi2 hi3 hi4 hBB
  have hb1' : decide (0 ≤ block) = false := by simp; omega
  go_enter Try.func4, Try.ntmps4
  go_wp2_with fail
  refine (alive_any w).mono ?_
  rintro e w1 ⟨rfl, hb⟩
  have h1 : BAt w1 ao n xs := h.only (Only.of_new (fun _ => False) hb) (fun _ _ _ x => x)
  have HB1 := Hid.mk hb
  obtain ⟨v', w2, hrun, hown, hg⟩ := append_nil_run w1 ao n c xs h1 (by omega) HN.out
  have H1 := Hid.mk h1
  have HR := Hid.mk hrun
  have HAL : Hid (∀ a, ao = some a → 0 < n → a.block < w1.heap.size) := fun a e h0 => by
    obtain ⟨a', e', hl, _⟩ := H1.out.2 h0
    rw [e] at e'
    cases e'
    exact hl
  clear h h1 hb hrun
  have HG := Hid.mk hg
  obtain ⟨oo, oc, rfl, hO2, hO3, hO4⟩ := owns_BAt hown
  have HY := Hid.mk (owns_bytey hown HX.out)
  have HO2 := Hid.mk hO2
  have HO3 := Hid.mk hO3
  have HO4 := Hid.mk hO4
  have HOL : Hid (∀ a, oo = some a → w1.heap.size ≤ a.block ∧ a.block < w2.heap.size) := fun a e => by
    obtain ⟨cur, hb, _⟩ := HY.out a.block (HO3.out a e).2.1
    exact ⟨(HO3.out a e).1, lt_of_block hb⟩
  clear hown hO2 hO3 hO4 hg
  have hnd : decide ((60000 : Int) < (n : Int)) = false := by simp; omega
  go_wp2_with (at_builtin; refine wpList_append_known rfl _ _ 27 rfl _ _ _ _ rfl rfl HR.out ?_)
  have HOF := of_any w2 oo n oc xs HO2.out.1 (by omega) HO2.out.2
  rw [HS.out] at HOF
  refine HOF.mono ?_
  clear HOF
  rintro e w3 ⟨d, rfl, hd3, hD3, hB3⟩
  have HD3 := Hid.mk hD3
  have HB3 := Hid.mk hB3
  clear hD3 hB3
  have HY3 : Hid (∀ a, oo = some a → Bytey w3 a.block n) := fun a e => by
    obtain ⟨cur, hb, hc⟩ := HY.out a.block (HO3.out a e).2.1
    exact ⟨cur, (HB3.out.block _ (lt_of_block hb)).trans hb, hc⟩
  go_wp2_with fail
  go_loopw [8] (fun i wr => ∃ k : Nat, k ≤ n ∧ i = .int .i64 k ∧ (∀ a, oo = some a → Bytey wr a.block n) ∧ Only (fun j => ∃ a, oo = some a ∧ j = a.block) w3 wr) (fun i _ => n - (intOf i).toNat)
  case atStart => exact ⟨0, by omega, rfl, HY3.out, Only.refl _ _⟩
  case round =>
    obtain ⟨k, hk, rfl, hby, hon⟩ := hrel
    by_cases hlt : k < n
    · obtain ⟨a, rfl⟩ : ∃ a, oo = some a := Option.ne_none_iff_exists'.1 (HO4.out (by omega))
      obtain ⟨_, _, e1, e2⟩ := HO3.out a rfl
      obtain ⟨g, ao', sp⟩ := a
      simp at e1 e2
      subst e1 e2
      obtain ⟨v, hv0, hv1, hc, hf⟩ := (hby _ rfl).at k hlt
      dsimp only at hc hf
      have HBY := Hid.mk (hby _ rfl)
      have HON := Hid.mk hon
      clear hby hon HY HY3 HO2 HO3 HO4 HOL
      go_wp2
      go_roundw
      case rel =>
        have hbd := xor_bound v
        exact ⟨k + 1, by omega, by go_num, fun a e => by cases e; exact HBY.out.set k _ hbd.1 hbd.2, HON.out.setCell (p := ⟨g, k, none⟩) (.inl ⟨_, rfl, rfl⟩) _⟩
      case measure => (clear HBY HON HD3 HB3 HR; simp [intOf]; omega)
    · obtain rfl : n = k := by omega
      have HO5 := Hid.mk hon
      have hD4 : DiskAt (fun j => w2.heap.size ≤ j) wr d S := HD3.out.only hon (fun j hj hF => by
        rintro ⟨a, e, rfl⟩
        have := (HOL.out a e).2
        omega)
      have hbr : BAt wr ao n xs := by
        rcases Nat.eq_zero_or_pos n with h0 | h0
        · exact ⟨H1.out.1, fun h => by omega⟩
        · exact ((H1.out.only ((Only.refl (fun _ => False) w1).grown HG.out (by simp)) (fun _ _ _ x => x)).only (Only.of_new (fun _ => False) HB3.out) (fun _ _ _ x => x)).only hon (fun a e hl => by
            rintro ⟨b, e2, e3⟩
            have := (HOL.out b e2).1
            have := HAL.out a e h0
            omega)
      have HBR := Hid.mk hbr
      have HD4 := Hid.mk hD4
      have HRD := read_any _ wr d S hD4 (by rw [HI2.out]; omega) block
      rw [HBB.out] at HRD
      clear hby hon hD4 hbr HY HY3 HO2 HO3 HO4 HR
      go_wp2_with fail
      refine HRD.mono ?_
      clear HRD
      rintro e w4 ⟨xo, xn, xc, rfl, hB4, hxo, hyes, hno⟩
      have HB4 := Hid.mk hB4
      have HYES := Hid.mk hyes
      have HNO := Hid.mk hno
      have HXO := Hid.mk hxo
      clear hB4 hyes hno hxo
      have hD5 := (HD4.out.only (Only.of_new (fun _ => False) HB4.out) (fun _ _ _ x => x)).mono (H := fun j => j < w4.heap.size) (fun k hk _ => hk.lt)
      have HIM := image_any _ w4 d S hD5 (by rw [HI2.out]; omega)
      rw [HI2.out] at HIM
      have HD5 := Hid.mk hD5
      clear hD5
      have HBR4 := Hid.mk (HBR.out.only (Only.of_new (fun _ => False) HB4.out) (fun _ _ _ x => x))
      have HW4 : Hid (Below w.heap.size w w4) := by
        have s1 := HB1.out.size
        have s2 := HG.out.size
        have s3 := HB3.out.size
        have sr := HO5.out.size
        exact (HB1.out.grown HG.out s1 (by simp)).trans ((HB3.out.mono (by omega)).trans ((HO5.out.below (by omega) (fun k e => by
          obtain ⟨a, e1, rfl⟩ := e
          have := (HOL.out a e1).1
          omega)).trans (HB4.out.mono (by omega))))
      go_wp2_with fail
      refine HIM.mono ?_
      clear HIM
      rintro e w5 ⟨v5, rfl, hown5, hnn5, hB5⟩
      have HB5 := Hid.mk hB5
      have hby5 := owns_bytey hown5 (fun x hx => HX.out x (by rw [HI1.out] at hx; exact List.mem_of_mem_take hx))
      obtain ⟨g5, cap5, rfl, hg5, hlt5, hcap5, hlen5, hcell5⟩ := owns_bytes hown5 hnn5
      have HY5 := Hid.mk (hby5 g5 rfl)
      clear hown5 hnn5 hB5 hby5 hcell5 hlen5
      go_wp2_with fail
      go_loopw [14] (fun i wr => ∃ k : Nat, k ≤ 1024 * (n / 1024) + 99 ∧ i = .int .i64 k ∧ Bytey wr g5 (1024 * (n / 1024)) ∧ Only (fun j => j = g5) w5 wr) (fun i _ => 1024 * (n / 1024) + 100 - (intOf i).toNat)
      case atStart => exact ⟨0, by omega, rfl, HY5.out, Only.refl _ _⟩
      case round =>
        obtain ⟨k, hk5, rfl, hby, hon⟩ := hrel
        by_cases hlt6 : k < 1024 * (n / 1024)
        · obtain ⟨v, hv0, hv1, hc, hf⟩ := hby.at k hlt6
          have HBY := Hid.mk hby
          have HON := Hid.mk hon
          clear hby hon
          go_wp2
          go_roundw
          case rel =>
            have hbd := xor_bound v
            exact ⟨k + 100, by omega, by go_num, HBY.out.set k _ hbd.1 hbd.2, HON.out.setCell (p := ⟨g5, k, none⟩) (.inl rfl) _⟩
          case measure => (clear HBY HON HD3 HB3; simp [intOf]; omega)
        · have HON := Hid.mk hon
          clear hby hon
          have hbr5 : BAt wr ao n xs := by
            rcases Nat.eq_zero_or_pos n with h0 | h0
            · exact ⟨HBR4.out.1, fun h => by omega⟩
            · exact (HBR4.out.only (Only.of_new (fun _ => False) HB5.out) (fun _ _ _ x => x)).only HON.out (fun a e hl hg => by
                obtain ⟨a', e', hl', _⟩ := HBR4.out.2 h0
                rw [e] at e'
                cases e'
                omega)
          have s5 := HB5.out.size
          have hD6 := (HD5.out.only (Only.of_new (fun _ => False) HB5.out) (fun _ _ _ x => x)).only HON.out (fun j hj hF hg => by omega)
          have hD7 : DiskAt (fun j => j < w4.heap.size) wr.drew d S := hD6.at (fun _ _ => rfl)
          have HBL := blocks_any _ wr.drew d S hD7 (by rw [HI2.out]; omega)
          rw [HI2.out, Nat.mul_div_cancel_left _ (by omega)] at HBL
          have hnq : ((n / 1024 : Nat) : Int) = (n : Int) / 1024 := by omega
          rw [hnq] at HBL
          clear hnq hD6
          have HBL := Hid.mk HBL
          have hi4 := HI4.out
          have o3 : (1024 * ((n : Int) / 1024)).toNat = 1024 * (n / 1024) := by omega
          have hbi : BAt wr ao (1024 * (n / 1024)) S.img := by
            refine ⟨HI2.out, fun h0 => ?_⟩
            obtain ⟨ba, e, hbl, hbc⟩ := hbr5.2 (by omega)
            refine ⟨ba, e, hbl, fun i hi => ?_⟩
            rw [hbc i (by omega), HI1.out]
            simp [List.getD, hi]
          have k3 : IntKind.i64.wrap (1024 * ((n : Int) / 1024)) = 1024 * ((n : Int) / 1024) := by rw [IntKind.wrap_i64]; omega
          have j5 : (0 : Int) ≤ 1024 * ((n : Int) / 1024) := by omega
          have j7 : 1024 * ((n : Int) / 1024) ≤ (c : Int) := by omega
          obtain ⟨SI, hSI⟩ : ∃ SI, strOfNums S.img = SI := ⟨_, rfl⟩
          have keep : ∀ W : World, Below wr.heap.size wr W → (convert 27 9 (.slice ao (1024 * ((n : Int) / 1024)).toNat c)).run Try.prog W = .ok (.string SI) W := by
            intro W hW
            rw [o3, ← hSI]
            exact conv_bytes _ _ _ _ _ (hbi.only (Only.of_new (fun _ => False) hW) (fun _ _ _ x => x))
          have HK := Hid.mk keep
          have HIM7 := image_any _ wr.drew d S hD7 (by rw [HI2.out]; omega)
          rw [HI2.out] at HIM7
          have HIM7 := Hid.mk HIM7
          have HLG : Hid (∀ W, Below wr.drew.heap.size wr.drew W → Calls Try.prog 15 #[.pointer (some ⟨d, 0, none⟩)] W fun e w' => ∃ g0 : Nat, e = .returned (.slice (some ⟨g0, 0, none⟩) 0 0) ∧ Below W.heap.size W w') := fun W hW => by
            have hD8 := hD7.only (Only.of_new (fun _ => False) hW) (fun _ _ _ x => x)
            refine (log_any _ W d S hD8 (by rw [hi4]; exact Nat.zero_le _) (fun k hk => by rw [hi4] at hk; cases hk)).mono ?_
            rintro e w' ⟨g0, cells, rfl, _, _, _, hb⟩
            rw [hi4]
            exact ⟨g0, rfl, hb⟩
          clear hD7 hi4 hbi keep hbr5 o3
          go_wp2_with fail
          refine wp_region_held_drew (S := fun W => (convert 27 9 (.slice ao (1024 * ((n : Int) / 1024)).toNat c)).run Try.prog W = .ok (.string SI) W) (by kernel_rfl) (HK.out _ ⟨rfl, rfl, rfl, Nat.le_refl _, fun _ _ => rfl⟩) (fun hH => ?_)
          change wpAnyH Try.prog Region.Mode.any _ _ _ 44 _ _ _
          refine takeH 0 74 (.pointer (some ⟨d, 0, none⟩)) rfl (by kernel_rfl) (by kernel_rfl) (by kernel_rfl) (by kernel_rfl) (fun _ _ _ h => h) (by kernel_rfl) (fun w hw => by kernel_rfl) hH ?_
          simp only [List.setIfInBounds_toArray, List.set_cons_zero, List.set_cons_succ]
          refine takeH 2 76 (.int .i64 ((n : Int) / 1024)) rfl (by kernel_rfl) (by kernel_rfl) (by kernel_rfl) (by kernel_rfl) (fun _ _ _ h => h) (by kernel_rfl) (fun w hw => by kernel_rfl) hH ?_
          simp only [List.setIfInBounds_toArray, List.set_cons_zero, List.set_cons_succ]
          refine stepH_call1 1 75 rfl (by kernel_rfl) (by kernel_rfl) (by kernel_rfl) 16 (.tmp 74) #[24] (by kernel_rfl) (enters_of Try.func16 (by kernel_rfl) rfl) (.pointer (some ⟨d, 0, none⟩)) (by kernel_rfl) HBL.out ?_
          rintro e w7 ⟨rfl, hw7⟩
          subst w7
          refine ⟨_, rfl, hH, ?_⟩
          simp only [List.setIfInBounds_toArray, List.set_cons_zero, List.set_cons_succ]
          refine takeH 3 77 (.bool true) rfl (by kernel_rfl) (by kernel_rfl) (by kernel_rfl) (by kernel_rfl) (fun _ _ _ h => h) (by kernel_rfl) (fun w hw => by (try dsimp only at hw); go_simp) hH ?_
          simp only [List.setIfInBounds_toArray, List.set_cons_zero, List.set_cons_succ]
          refine takeH 4 78 (.bool true) rfl (by kernel_rfl) (by kernel_rfl) (by kernel_rfl) (by kernel_rfl) (fun _ _ _ h => h) (by kernel_rfl) (fun w hw => by kernel_rfl) hH ?_
          simp only [List.setIfInBounds_toArray, List.set_cons_zero, List.set_cons_succ]
          refine takeH 5 79 (.bool false) rfl (by kernel_rfl) (by kernel_rfl) (by kernel_rfl) (by kernel_rfl) (fun _ _ _ h => h) (by kernel_rfl) (fun w hw => by kernel_rfl) hH ?_
          simp only [List.setIfInBounds_toArray, List.set_cons_zero, List.set_cons_succ]
          refine takeH 6 80 (.bool false) rfl (by kernel_rfl) (by kernel_rfl) (by kernel_rfl) (by kernel_rfl) (fun _ _ _ h => h) (by kernel_rfl) (fun w hw => by kernel_rfl) hH ?_
          simp only [List.setIfInBounds_toArray, List.set_cons_zero, List.set_cons_succ]
          refine takeH 7 81 (.bool true) rfl (by kernel_rfl) (by kernel_rfl) (by kernel_rfl) (by kernel_rfl) (fun _ _ _ h => h) (by kernel_rfl) (fun w hw => by kernel_rfl) hH ?_
          simp only [List.setIfInBounds_toArray, List.set_cons_zero, List.set_cons_succ]
          refine takeH 8 82 (.bool true) rfl (by kernel_rfl) (by kernel_rfl) (by kernel_rfl) (by kernel_rfl) (fun _ _ _ h => h) (by kernel_rfl) (fun w hw => by kernel_rfl) hH ?_
          simp only [List.setIfInBounds_toArray, List.set_cons_zero, List.set_cons_succ]
          refine takeH 9 83 (.bool true) rfl (by kernel_rfl) (by kernel_rfl) (by kernel_rfl) (by kernel_rfl) (fun _ _ _ h => h) (by kernel_rfl) (fun w hw => by kernel_rfl) hH ?_
          simp only [List.setIfInBounds_toArray, List.set_cons_zero, List.set_cons_succ]
          refine takeH 10 84 (.bool false) rfl (by kernel_rfl) (by kernel_rfl) (by kernel_rfl) (by kernel_rfl) (fun _ _ _ h => h) (by kernel_rfl) (fun w hw => by kernel_rfl) hH ?_
          simp only [List.setIfInBounds_toArray, List.set_cons_zero, List.set_cons_succ]
          refine takeH 11 85 (.bool true) rfl (by kernel_rfl) (by kernel_rfl) (by kernel_rfl) (by kernel_rfl) (fun _ _ _ h => h) (by kernel_rfl) (fun w hw => by kernel_rfl) hH ?_
          simp only [List.setIfInBounds_toArray, List.set_cons_zero, List.set_cons_succ]
          refine takeH 12 86 (.bool true) rfl (by kernel_rfl) (by kernel_rfl) (by kernel_rfl) (by kernel_rfl) (fun _ _ _ h => h) (by kernel_rfl) (fun w hw => by kernel_rfl) hH ?_
          simp only [List.setIfInBounds_toArray, List.set_cons_zero, List.set_cons_succ]
          refine skipH 13 87 rfl (by kernel_rfl) (by kernel_rfl) (by kernel_rfl) (by kernel_rfl) (fun _ _ _ h => h) (by kernel_rfl) hH ?_
          simp only [List.setIfInBounds_toArray, List.set_cons_zero, List.set_cons_succ]
          refine skipH 14 88 rfl (by kernel_rfl) (by kernel_rfl) (by kernel_rfl) (by kernel_rfl) (fun _ _ _ h => h) (by kernel_rfl) hH ?_
          simp only [List.setIfInBounds_toArray, List.set_cons_zero, List.set_cons_succ]
          refine skipH 15 89 rfl (by kernel_rfl) (by kernel_rfl) (by kernel_rfl) (by kernel_rfl) (fun _ _ _ h => h) (by kernel_rfl) hH ?_
          simp only [List.setIfInBounds_toArray, List.set_cons_zero, List.set_cons_succ]
          refine skipH 16 90 rfl (by kernel_rfl) (by kernel_rfl) (by kernel_rfl) (by kernel_rfl) (fun _ _ _ h => h) (by kernel_rfl) hH ?_
          simp only [List.setIfInBounds_toArray, List.set_cons_zero, List.set_cons_succ]
          refine skipH 17 91 rfl (by kernel_rfl) (by kernel_rfl) (by kernel_rfl) (by kernel_rfl) (fun _ _ _ h => h) (by kernel_rfl) hH ?_
          simp only [List.setIfInBounds_toArray, List.set_cons_zero, List.set_cons_succ]
          refine skipH 18 92 rfl (by kernel_rfl) (by kernel_rfl) (by kernel_rfl) (by kernel_rfl) (fun _ _ _ h => h) (by kernel_rfl) hH ?_
          simp only [List.setIfInBounds_toArray, List.set_cons_zero, List.set_cons_succ]
          refine skipH 19 93 rfl (by kernel_rfl) (by kernel_rfl) (by kernel_rfl) (by kernel_rfl) (fun _ _ _ h => h) (by kernel_rfl) hH ?_
          simp only [List.setIfInBounds_toArray, List.set_cons_zero, List.set_cons_succ]
          refine skipH 20 94 rfl (by kernel_rfl) (by kernel_rfl) (by kernel_rfl) (by kernel_rfl) (fun _ _ _ h => h) (by kernel_rfl) hH ?_
          simp only [List.setIfInBounds_toArray, List.set_cons_zero, List.set_cons_succ]
          refine skipH 21 95 rfl (by kernel_rfl) (by kernel_rfl) (by kernel_rfl) (by kernel_rfl) (fun _ _ _ h => h) (by kernel_rfl) hH ?_
          simp only [List.setIfInBounds_toArray, List.set_cons_zero, List.set_cons_succ]
          refine skipH 22 96 rfl (by kernel_rfl) (by kernel_rfl) (by kernel_rfl) (by kernel_rfl) (fun _ _ _ h => h) (by kernel_rfl) hH ?_
          simp only [List.setIfInBounds_toArray, List.set_cons_zero, List.set_cons_succ]
          refine skipH 23 97 rfl (by kernel_rfl) (by kernel_rfl) (by kernel_rfl) (by kernel_rfl) (fun _ _ _ h => h) (by kernel_rfl) hH ?_
          simp only [List.setIfInBounds_toArray, List.set_cons_zero, List.set_cons_succ]
          refine takeH 24 98 (.bool true) rfl (by kernel_rfl) (by kernel_rfl) (by kernel_rfl) (by kernel_rfl) (fun _ _ _ h => h) (by kernel_rfl) (fun w hw => by kernel_rfl) hH ?_
          simp only [List.setIfInBounds_toArray, List.set_cons_zero, List.set_cons_succ]
          refine takeH 25 99 (.bool true) rfl (by kernel_rfl) (by kernel_rfl) (by kernel_rfl) (by kernel_rfl) (fun _ _ _ h => h) (by kernel_rfl) (fun w hw => by kernel_rfl) hH ?_
          simp only [List.setIfInBounds_toArray, List.set_cons_zero, List.set_cons_succ]
          refine takeH 26 100 (.bool true) rfl (by kernel_rfl) (by kernel_rfl) (by kernel_rfl) (by kernel_rfl) (fun _ _ _ h => h) (by kernel_rfl) (fun w hw => by kernel_rfl) hH ?_
          simp only [List.setIfInBounds_toArray, List.set_cons_zero, List.set_cons_succ]
          refine takeH 27 101 (.pointer (some ⟨d, 0, none⟩)) rfl (by kernel_rfl) (by kernel_rfl) (by kernel_rfl) (by kernel_rfl) (fun _ _ _ h => h) (by kernel_rfl) (fun w hw => by kernel_rfl) hH ?_
          simp only [List.setIfInBounds_toArray, List.set_cons_zero, List.set_cons_succ]
          refine takeH 30 104 (.slice ao n c) rfl (by kernel_rfl) (by kernel_rfl) (by kernel_rfl) (by kernel_rfl) (fun _ _ _ h => h) (by kernel_rfl) (fun w hw => by kernel_rfl) hH ?_
          simp only [List.setIfInBounds_toArray, List.set_cons_zero, List.set_cons_succ]
          refine takeH 31 105 (.int .i64 ((n : Int) / 1024)) rfl (by kernel_rfl) (by kernel_rfl) (by kernel_rfl) (by kernel_rfl) (fun _ _ _ h => h) (by kernel_rfl) (fun w hw => by kernel_rfl) hH ?_
          simp only [List.setIfInBounds_toArray, List.set_cons_zero, List.set_cons_succ]
          refine takeH 32 106 (.int .i64 (1024 * ((n : Int) / 1024))) rfl (by kernel_rfl) (by kernel_rfl) (by kernel_rfl) (by kernel_rfl) (fun _ _ _ h => h) (by kernel_rfl) (fun w hw => by (try dsimp only at hw); go_simp) hH ?_
          simp only [List.setIfInBounds_toArray, List.set_cons_zero, List.set_cons_succ]
          refine takeH 33 107 (.slice ao (1024 * ((n : Int) / 1024)).toNat c) rfl (by kernel_rfl) (by kernel_rfl) (by kernel_rfl) (by kernel_rfl) (fun _ _ _ h => h) (by kernel_rfl) (fun w hw => by (try dsimp only at hw); go_simp) hH ?_
          simp only [List.setIfInBounds_toArray, List.set_cons_zero, List.set_cons_succ]
          refine takeH 34 108 (.string SI) rfl (by kernel_rfl) (by kernel_rfl) (by kernel_rfl) (by kernel_rfl) (fun _ _ _ h => h) (by kernel_rfl) (fun w hw => by (try dsimp only at hw); go_simp) hH ?_
          simp only [List.setIfInBounds_toArray, List.set_cons_zero, List.set_cons_succ]
          refine stepH_call1 28 102 rfl (by kernel_rfl) (by kernel_rfl) (by kernel_rfl) 17 (.tmp 101) #[24] (by kernel_rfl) (enters_of Try.func17 (by kernel_rfl) rfl) (.pointer (some ⟨d, 0, none⟩)) (by kernel_rfl) HIM7.out ?_
          rintro e w7 ⟨v7, rfl, hown7, hnn7, hB7⟩
          obtain ⟨io, ic, rfl, hib, _, _⟩ := owns_BAt hown7
          have cv7 := conv_bytes w7 io _ ic S.img hib
          rw [hSI] at cv7
          have hB7' : Below wr.heap.size wr w7 := ⟨hB7.os, hB7.tape, hB7.output, hB7.size, hB7.block⟩
          have hH7 := HK.out w7 hB7'
          have HB7 := Hid.mk hB7
          clear hown7 hnn7 hib hB7' hB7
          refine ⟨_, rfl, hH7, ?_⟩
          simp only [List.setIfInBounds_toArray, List.set_cons_zero, List.set_cons_succ]
          refine stepH 29 103 (.string SI) rfl (by kernel_rfl) (by kernel_rfl) (by kernel_rfl) (by go_simp) hH7 ?_
          simp only [List.setIfInBounds_toArray, List.set_cons_zero, List.set_cons_succ]
          refine takeH 35 109 (.bool true) rfl (by kernel_rfl) (by kernel_rfl) (by kernel_rfl) (by kernel_rfl) (fun _ _ _ h => h) (by kernel_rfl) (fun w hw => by (try dsimp only at hw); go_simp) hH7 ?_
          simp only [List.setIfInBounds_toArray, List.set_cons_zero, List.set_cons_succ]
          refine takeH 36 110 (.bool true) rfl (by kernel_rfl) (by kernel_rfl) (by kernel_rfl) (by kernel_rfl) (fun _ _ _ h => h) (by kernel_rfl) (fun w hw => by kernel_rfl) hH7 ?_
          simp only [List.setIfInBounds_toArray, List.set_cons_zero, List.set_cons_succ]
          refine takeH 37 111 (.bool true) rfl (by kernel_rfl) (by kernel_rfl) (by kernel_rfl) (by kernel_rfl) (fun _ _ _ h => h) (by kernel_rfl) (fun w hw => by kernel_rfl) hH7 ?_
          simp only [List.setIfInBounds_toArray, List.set_cons_zero, List.set_cons_succ]
          refine takeH 38 112 (.pointer (some ⟨d, 0, none⟩)) rfl (by kernel_rfl) (by kernel_rfl) (by kernel_rfl) (by kernel_rfl) (fun _ _ _ h => h) (by kernel_rfl) (fun w hw => by kernel_rfl) hH7 ?_
          simp only [List.setIfInBounds_toArray, List.set_cons_zero, List.set_cons_succ]
          refine stepH_call1 39 113 rfl (by kernel_rfl) (by kernel_rfl) (by kernel_rfl) 15 (.tmp 112) #[24] (by kernel_rfl) (enters_of Try.func15 (by kernel_rfl) rfl) (.pointer (some ⟨d, 0, none⟩)) (by kernel_rfl) (HLG.out w7 HB7.out) ?_
          rintro e w8 ⟨g8, rfl, hB8⟩
          have s7 := HB7.out.size
          have hB8' : Below wr.heap.size wr w8 := Below.trans (b := w7) ⟨HB7.out.os, HB7.out.tape, HB7.out.output, HB7.out.size, HB7.out.block⟩ (hB8.mono s7)
          have hH8 := HK.out w8 hB8'
          have HB8 := Hid.mk hB8'
          clear hB8 hB8' s7
          refine ⟨_, rfl, hH8, ?_⟩
          simp only [List.setIfInBounds_toArray, List.set_cons_zero, List.set_cons_succ]
          refine takeH 40 114 (.int .i64 0) rfl (by kernel_rfl) (by kernel_rfl) (by kernel_rfl) (by kernel_rfl) (fun _ _ _ h => h) (by kernel_rfl) (fun w hw => by (try dsimp only at hw); go_simp) hH8 ?_
          simp only [List.setIfInBounds_toArray, List.set_cons_zero, List.set_cons_succ]
          refine takeH 41 115 (.bool true) rfl (by kernel_rfl) (by kernel_rfl) (by kernel_rfl) (by kernel_rfl) (fun _ _ _ h => h) (by kernel_rfl) (fun w hw => by kernel_rfl) hH8 ?_
          simp only [List.setIfInBounds_toArray, List.set_cons_zero, List.set_cons_succ]
          refine takeH 42 116 (.bool true) rfl (by kernel_rfl) (by kernel_rfl) (by kernel_rfl) (by kernel_rfl) (fun _ _ _ h => h) (by kernel_rfl) (fun w hw => by kernel_rfl) hH8 ?_
          simp only [List.setIfInBounds_toArray, List.set_cons_zero, List.set_cons_succ]
          refine takeH 43 4 (.bool true) rfl (by kernel_rfl) (by kernel_rfl) (by kernel_rfl) (by kernel_rfl) (fun _ _ _ h => h) (by kernel_rfl) (fun w hw => by kernel_rfl) hH8 ?_
          simp only [List.setIfInBounds_toArray, List.set_cons_zero, List.set_cons_succ]
          refine wpAnyH_done (by kernel_rfl) ?_ _
          go_wp2
          go_ret
          have s4 := HW4.out.size
          have s5 := HB5.out.size
          have s6 := HON.out.size
          exact ⟨rfl, HW4.out.trans ((HB5.out.mono s4).trans ((HON.out.below (by omega) (fun j e => by omega)).trans (HB8.out.mono (by omega))))⟩

end Go.Proofs.Ytochgjajlojfeaa
